package wire

import (
	"slices"

	"verger/api"
)

// Reader reads what a Writer writes.
type Reader struct {
	left []byte // what was not read yet: never written into, so that a part's reader may stand on the same bytes
	at   int
	err  api.Errno
	bad  int // the place where err was found
}

// NewReader is a Reader of b.
func NewReader(b []byte) *Reader {
	return &Reader{left: slices.Clone(b)}
}

func (r *Reader) U8() uint8 { return take[uint8](r) }

func (r *Reader) U16() uint16 { return take[uint16](r) }

func (r *Reader) U32() uint32 { return take[uint32](r) }

func (r *Reader) U64() uint64 { return take[uint64](r) }

// take reads a number of any width.
func take[N number](r *Reader) N {
	var n N
	for i, b := range r.next(widthOf[N]()) {
		n |= N(b) << (8 * i)
	}
	return n
}

// next goes over n bytes and answers them, as they stand in the reader; none, where it is wrong or not as many are left.
func (r *Reader) next(n int) []byte {
	if n > len(r.left) {
		r.Fail(api.ErrWireShort)
	}
	if !r.right() {
		return nil
	}
	b := r.left[:n]
	r.left = r.left[n:]
	r.at += n
	return b
}

func (r *Reader) right() bool { return r.err == api.OK }

// counted answers the bytes behind the count of two bytes that stands here, and whether all of them are there. It does not move on: where they turn out to be bad the reader has to stay.
func (r *Reader) counted() ([]byte, bool) {
	ahead := *r
	b := ahead.next(int(ahead.U16()))
	if !ahead.right() {
		r.Fail(ahead.err)
	}
	return b, r.right()
}

// Raw reads n bytes.
func (r *Reader) Raw(n int) []byte {
	if n < 0 {
		r.Fail(api.ErrArg)
		return nil
	}
	return slices.Clone(r.next(n))
}

// Text reads a text with its count.
func (r *Reader) Text() string {
	b, ok := r.counted()
	if !ok {
		return ""
	}
	s := string(b)
	if i, bad := firstBad(s); bad {
		r.failAt(api.ErrWireText, r.at+countSize+i)
		return ""
	}
	r.next(countSize + len(s))
	return s
}

// Part is a Reader of a part that has its count of two bytes ahead.
func (r *Reader) Part() *Reader {
	b, ok := r.counted()
	if !ok {
		return &Reader{at: r.bad, err: r.err, bad: r.bad}
	}
	r.next(countSize + len(b))
	return &Reader{left: b, at: r.at - len(b)}
}

// End says that nothing may be left.
func (r *Reader) End() {
	if len(r.left) > 0 {
		r.Fail(api.ErrWireMore)
	}
}

// Fail makes e the error, if there is none yet.
func (r *Reader) Fail(e api.Errno) { r.failAt(e, r.at) }

// failAt is Fail, of an error that was found further on than the reader stands.
func (r *Reader) failAt(e api.Errno, place int) {
	if r.right() && e != api.OK {
		r.err, r.bad = e, place
	}
}

// Left is how many bytes are left.
func (r *Reader) Left() int {
	if !r.right() {
		return 0
	}
	return len(r.left)
}

// At is the place that has been come to.
func (r *Reader) At() int { return r.at }

// Err is the first error, and where it arose.
func (r *Reader) Err() (api.Errno, int) { return r.err, r.bad }
