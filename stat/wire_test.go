package stat_test

import (
	"bytes"
	"slices"
	"strings"
	"testing"

	"verger/api"
	"verger/stat"
	"verger/wire"
)

// putByHand is the chapter's row of calls.
func putByHand(w *wire.Writer, s api.Stat) {
	at := w.Open()
	w.U16(s.Type)
	w.U32(s.Dev)
	putQidByHand(w, s.Qid)
	w.U32(s.Mode)
	w.U32(s.Atime)
	w.U32(s.Mtime)
	w.U64(s.Length)
	w.Text(s.Name)
	w.Text(s.Uid)
	w.Text(s.Gid)
	w.Text(s.Muid)
	w.Shut(at)
}

func putQidByHand(w *wire.Writer, q api.Qid) {
	w.U8(q.Kind)
	w.U32(q.Vers)
	w.U64(q.Path)
}

// takeByHand is the chapter's row of calls.
func takeByHand(r *wire.Reader) {
	p := r.Part()
	p.U16()
	p.U32()
	takeQidByHand(p)
	p.U32()
	p.U32()
	p.U32()
	p.U64()
	p.Text()
	p.Text()
	p.Text()
	p.Text()
	p.End()
	e, _ := p.Err()
	r.Fail(e)
}

func takeQidByHand(r *wire.Reader) {
	r.U8()
	r.U32()
	r.U64()
}

// wantSameWriter says that two writers have come to the same.
func wantSameWriter(t *testing.T, got, want *wire.Writer) {
	t.Helper()
	a, ea := got.Done()
	b, eb := want.Done()
	if !bytes.Equal(a, b) || ea != eb || got.Len() != want.Len() {
		t.Errorf("Done %.80x, %d, Len %d; want %.80x, %d, Len %d", a, ea, got.Len(), b, eb, want.Len())
	}
}

// wantSameReader says that two readers have come to the same.
func wantSameReader(t *testing.T, got, want *wire.Reader) {
	t.Helper()
	ea, ba := got.Err()
	eb, bb := want.Err()
	if ea != eb || ba != bb || got.At() != want.At() || got.Left() != want.Left() {
		t.Errorf("Err %d, %d, At %d, Left %d; want Err %d, %d, At %d, Left %d", ea, ba, got.At(), got.Left(), eb, bb, want.At(), want.Left())
	}
}

func TestPutWrites(t *testing.T) {
	w := newWriter(t, 1000)
	s, b := sample()
	f, c := full()
	w.U8(9)
	stat.Put(w, s)
	stat.PutQid(w, f.Qid)
	stat.Put(w, f)
	got, e := w.Done()
	if want := joined([]byte{9}, b, []byte("\x07\x08\x09\x0a\x0b\x0c\x0d\x0e\x0f\x10\x11\x12\x13"), c); e != api.OK || !bytes.Equal(got, want) {
		t.Errorf("%x, %d; want %x", got, e, want)
	}
}

// What is too much, or no text, is the Writer's own error, at the call by which it comes about.
func TestPutByCalls(t *testing.T) {
	s, _ := sample()
	f, _ := full()
	stats := []api.Stat{s, f, with("\xff", "\x00", "", ""), with("a", "\x00", "", ""), with("a", "b", "\xc3", ""), with("", "", "", "é\x80"),
		with(strings.Repeat("a", 65536), "\xff", "", ""), with("", strings.Repeat("a", 65488), "", ""), with("", "", strings.Repeat("a", 65489), ""), with("", "", "", strings.Repeat("a", 65536))}
	for _, s := range stats {
		for _, limit := range append(limits(70), 65536, 65537, 65538, 65539, 65540, 70000) {
			for _, ahead := range []func(w *wire.Writer){func(*wire.Writer) {}, func(w *wire.Writer) { w.U8(1) }, func(w *wire.Writer) { w.Open() }, func(w *wire.Writer) { w.Shut(0) }} {
				got, want := newWriter(t, limit), newWriter(t, limit)
				ahead(got)
				ahead(want)
				stat.Put(got, s)
				putByHand(want, s)
				wantSameWriter(t, got, want)
				got.Shut(0)
				want.Shut(0)
				wantSameWriter(t, got, want)
			}
		}
	}
}

func limits(most int) []int {
	var l []int
	for n := range most + 1 {
		l = append(l, n)
	}
	return l
}

func TestPutQidByCalls(t *testing.T) {
	f, _ := full()
	for _, q := range []api.Qid{{}, f.Qid, stat.Keep().Qid, {Kind: 0x80}, {Vers: 1}, {Path: 1}} {
		for _, limit := range limits(15) {
			got, want := newWriter(t, limit), newWriter(t, limit)
			stat.PutQid(got, q)
			putQidByHand(want, q)
			wantSameWriter(t, got, want)
			stat.PutQid(got, q)
			putQidByHand(want, q)
			wantSameWriter(t, got, want)
		}
	}
}

// In an open part a record is a part of its own; what is open stays so.
func TestPutInPart(t *testing.T) {
	s, b := sample()
	w := newWriter(t, 200)
	at := w.Open()
	stat.Put(w, s)
	if got, e := w.Done(); e != api.ErrArg || len(got) != 0 {
		t.Errorf("Done with a part open: %x, %d", got, e)
	}
	w.Shut(at)
	if got, e := w.Done(); e != api.OK || !bytes.Equal(got, joined([]byte{52, 0}, b)) {
		t.Errorf("Done: %x, %d", got, e)
	}
}

// wantTaken says what Take tells, and that the reader comes to be as by the chapter's calls.
func wantTaken(t *testing.T, got, hand *wire.Reader, want api.Stat) {
	t.Helper()
	if s := stat.Take(got); s != want {
		t.Errorf("Take: %+v, want %+v", s, want)
	}
	takeByHand(hand)
	wantSameReader(t, got, hand)
}

func wantQidTaken(t *testing.T, got, hand *wire.Reader, want api.Qid) {
	t.Helper()
	if q := stat.TakeQid(got); q != want {
		t.Errorf("TakeQid: %+v, want %+v", q, want)
	}
	takeQidByHand(hand)
	wantSameReader(t, got, hand)
}

// two are readers of the same bytes.
func two(b []byte) (*wire.Reader, *wire.Reader) { return wire.NewReader(b), wire.NewReader(b) }

func TestTakeReads(t *testing.T) {
	s, b := sample()
	f, c := full()
	got, hand := two(joined(b, c, qidBytes(f.Qid), b))
	wantTaken(t, got, hand, s)
	wantTaken(t, got, hand, f)
	wantQidTaken(t, got, hand, f.Qid)
	wantTaken(t, got, hand, s)
	wantTaken(t, got, hand, api.Stat{})
	if e, at := got.Err(); e != api.ErrWireShort || at != 181 || got.At() != 181 {
		t.Errorf("at the end: %d at %d, At %d", e, at, got.At())
	}
}

// Each byte of a record is put to each value: what is no record is noughts, and the reader wrong as the calls make it.
func TestTakeEachByte(t *testing.T) {
	_, b := full()
	for i := range b {
		for n := range 256 {
			other := append(slices.Clone(b), 1, 0, 'x')
			other[i] = byte(n)
			want, _ := front(other)
			got, hand := two(other)
			wantTaken(t, got, hand, want)
		}
	}
}

func TestTakeOfLess(t *testing.T) {
	for _, of := range []func() (api.Stat, []byte){sample, full} {
		_, b := of()
		for n := range b {
			got, hand := two(b[:n])
			wantTaken(t, got, hand, api.Stat{})
			if e, at := got.Err(); e != api.ErrWireShort || at != 0 || got.At() != 0 {
				t.Errorf("%d bytes: %d at %d, At %d", n, e, at, got.At())
			}
		}
	}
}

// Errors within the part are found at the place behind it: there the reader is.
func TestTakePlaces(t *testing.T) {
	_, b := sample()
	change := func(at int, n byte) []byte {
		other := slices.Clone(b)
		other[at] = n
		return other
	}
	for _, c := range []struct {
		b  []byte
		e  api.Errno
		at int
	}{
		{[]byte{0, 0}, api.ErrWireShort, 2},
		{[]byte{5, 0, 1, 2, 3, 4, 5, 6}, api.ErrWireShort, 7},
		{change(43, 0xff), api.ErrWireText, 52},
		{change(46, 0), api.ErrWireText, 52},
		{change(41, 200), api.ErrWireShort, 52},
		{change(50, 1), api.ErrWireShort, 52},
		{append(change(0, 51), 7), api.ErrWireMore, 53},
		{append(change(0, 53), 7, 7, 7, 7), api.ErrWireMore, 55},
		{change(0, 49), api.ErrWireShort, 51},
	} {
		r := wire.NewReader(joined([]byte{1, 2, 3}, c.b, []byte("behind")))
		r.Raw(3)
		s := stat.Take(r)
		if e, at := r.Err(); s != (api.Stat{}) || e != c.e || at != 3+c.at || r.At() != 3+c.at || r.Left() != 0 {
			t.Errorf("%x: %+v, Err %d, %d, At %d, Left %d; want Err %d, %d", c.b, s, e, at, r.At(), r.Left(), c.e, 3+c.at)
		}
	}
}

// Of a part's reader places go on from where the part stands.
func TestTakeInPart(t *testing.T) {
	s, b := sample()
	all := joined([]byte{1, 2, 3, 4, 54, 0}, b, []byte{0, 0, 9})
	got, hand := two(all)
	got.U32()
	hand.U32()
	p, q := got.Part(), hand.Part()
	wantTaken(t, p, q, s)
	wantTaken(t, p, q, api.Stat{})
	if e, at := p.Err(); e != api.ErrWireShort || at != 60 {
		t.Errorf("Err of the part: %d, %d", e, at)
	}
	wantSameReader(t, got, hand)
	if e, _ := got.Err(); e != api.OK {
		t.Errorf("Err: %d", e)
	}
}

// A qid of which not all bytes are there is noughts, whatever was read of it.
func TestTakeQidOfLess(t *testing.T) {
	f, _ := full()
	b := qidBytes(f.Qid)
	for n := range b {
		got, hand := two(b[:n])
		wantQidTaken(t, got, hand, api.Qid{})
		at := 0
		if n >= 1 {
			at = 1
		}
		if n >= 5 {
			at = 5
		}
		if e, bad := got.Err(); e != api.ErrWireShort || bad != at || got.At() != at {
			t.Errorf("%d bytes: %d at %d, At %d; want %d", n, e, bad, got.At(), at)
		}
	}
	for n := range 4 {
		got, hand := two(append(b, make([]byte, n)...))
		wantQidTaken(t, got, hand, f.Qid)
		if got.At() != 13 || got.Left() != n {
			t.Errorf("At %d, Left %d", got.At(), got.Left())
		}
	}
}

// A reader that was wrong ahead stays as it was, and gives noughts.
func TestTakeOfWrong(t *testing.T) {
	_, b := full()
	for _, e := range []api.Errno{api.ErrArg, api.ErrWireMore, api.ErrMsgBody, api.ErrBulkArg} {
		got, hand := two(joined([]byte{7}, b, b))
		got.U8()
		hand.U8()
		got.Fail(e)
		hand.Fail(e)
		wantTaken(t, got, hand, api.Stat{})
		wantQidTaken(t, got, hand, api.Qid{})
		if was, at := got.Err(); was != e || at != 1 {
			t.Errorf("Err: %d, %d", was, at)
		}
	}
}

func TestPutOfWrong(t *testing.T) {
	s, _ := sample()
	w := newWriter(t, 100)
	w.U8(7)
	w.Text("\xff")
	stat.Put(w, s)
	stat.PutQid(w, s.Qid)
	if b, e := w.Done(); e != api.ErrWireText || len(b) != 0 || w.Len() != 1 {
		t.Errorf("Done: %x, %d, Len %d", b, e, w.Len())
	}
}

// With nil in the place of a Writer or a Reader nothing is done.
func TestNoWriterNoReader(t *testing.T) {
	f, _ := full()
	stat.Put(nil, f)
	stat.Put(nil, with("\xff", "", "", ""))
	stat.PutQid(nil, f.Qid)
	if s := stat.Take(nil); s != (api.Stat{}) {
		t.Errorf("Take(nil): %+v", s)
	}
	if q := stat.TakeQid(nil); q != (api.Qid{}) {
		t.Errorf("TakeQid(nil): %+v", q)
	}
}
