package wire

import (
	"slices"

	"verger/api"
)

// Writer writes numbers and texts as bytes, up to a limit.
type Writer struct {
	limit int
	bytes []byte
	open  []int // the places of the parts that are open, the innermost one last
	err   api.Errno
}

// NewWriter is a Writer of at most limit bytes.
func NewWriter(limit int) (*Writer, api.Errno) {
	if limit < 0 || limit > api.MaxWire {
		return nil, api.ErrArg
	}
	return &Writer{limit: limit}, api.OK
}

func (w *Writer) U8(n uint8) { put(w, n) }

func (w *Writer) U16(n uint16) { put(w, n) }

func (w *Writer) U32(n uint32) { put(w, n) }

func (w *Writer) U64(n uint64) { put(w, n) }

// put writes a number of any width.
func put[N number](w *Writer, n N) {
	if !w.room(widthOf[N]()) {
		return
	}
	for i := range widthOf[N]() {
		w.bytes = append(w.bytes, uint8(uint64(n)>>(8*i)))
	}
}

// room tells whether n bytes more may be written; where they pass the limit the writer comes to be wrong.
func (w *Writer) room(n int) bool {
	if n > w.limit-len(w.bytes) {
		w.fail(api.ErrWireFull)
	}
	return w.right()
}

func (w *Writer) right() bool { return w.err == api.OK }

// fail makes the writer wrong; the first error is the one that stays.
func (w *Writer) fail(e api.Errno) {
	if w.right() {
		w.err = e
	}
}

// Raw writes bytes as they are.
func (w *Writer) Raw(b []byte) {
	if w.room(len(b)) {
		w.bytes = append(w.bytes, b...)
	}
}

// Text writes a text with its count of two bytes ahead.
func (w *Writer) Text(s string) {
	if len(s) > maxCount {
		w.fail(api.ErrWireLong)
	} else if !Good(s) {
		w.fail(api.ErrWireText)
	}
	// Room for both is asked for at once: of a text that has none its count isn't written either.
	if w.room(countSize + len(s)) {
		put(w, uint16(len(s)))
		w.bytes = append(w.bytes, s...)
	}
}

// Open begins a part that has its count of two bytes ahead; it answers the part's place.
func (w *Writer) Open() int {
	if !w.room(countSize) {
		return 0
	}
	place := len(w.bytes)
	put(w, uint16(0))
	w.open = append(w.open, place)
	return place
}

// Shut ends the part that Open began.
func (w *Writer) Shut(place int) {
	if !w.right() {
		return
	}
	inner := len(w.open) - 1
	if inner < 0 || w.open[inner] != place {
		w.fail(api.ErrArg)
		return
	}
	size := len(w.bytes) - place - countSize
	if size > maxCount {
		w.fail(api.ErrWireLong)
		return
	}
	w.bytes[place] = uint8(size)
	w.bytes[place+1] = uint8(size >> 8)
	w.open = w.open[:inner]
}

// Len is how many bytes were written.
func (w *Writer) Len() int { return len(w.bytes) }

// Done is what was written, or the first error.
func (w *Writer) Done() ([]byte, api.Errno) {
	if !w.right() {
		return nil, w.err
	}
	if len(w.open) > 0 {
		return nil, api.ErrArg
	}
	return slices.Clone(w.bytes), api.OK
}
