package wire_test

import (
	"bytes"
	"math/rand"
	"testing"

	"verger/api"
	"verger/wire"
)

// item is one thing that is written and read again: a number, bytes, a text or a part.
type item struct {
	kind  int
	n     uint64
	b     []byte
	s     string
	items []item
}

func someItems(rnd *rand.Rand, deep int) []item {
	var l []item
	for range rnd.Intn(6) {
		it := item{kind: rnd.Intn(7), n: rnd.Uint64(), b: someBytes(rnd, 9), s: someText(rnd, true)}
		if it.kind == 6 && deep > 0 {
			it.items = someItems(rnd, deep-1)
		}
		l = append(l, it)
	}
	return l
}

func writeItems(w *wire.Writer, l []item) {
	for _, it := range l {
		switch it.kind {
		case 0:
			w.U8(uint8(it.n))
		case 1:
			w.U16(uint16(it.n))
		case 2:
			w.U32(uint32(it.n))
		case 3:
			w.U64(it.n)
		case 4:
			w.Raw(it.b)
		case 5:
			w.Text(it.s)
		case 6:
			at := w.Open()
			writeItems(w, it.items)
			w.Shut(at)
		}
	}
}

// readItems tells whether the reader reads just these, and then is at its end.
func readItems(r *wire.Reader, l []item) bool {
	same := true
	for _, it := range l {
		switch it.kind {
		case 0:
			same = same && r.U8() == uint8(it.n)
		case 1:
			same = same && r.U16() == uint16(it.n)
		case 2:
			same = same && r.U32() == uint32(it.n)
		case 3:
			same = same && r.U64() == it.n
		case 4:
			same = same && bytes.Equal(r.Raw(len(it.b)), it.b)
		case 5:
			same = same && r.Text() == it.s
		case 6:
			same = same && readItems(r.Part(), it.items)
		}
	}
	r.End()
	e, _ := r.Err()
	return same && e == api.OK && r.Left() == 0
}

// What a writer has written a reader reads again, by the same row of calls, up to its end.
func TestThereAndBack(t *testing.T) {
	rnd := rand.New(rand.NewSource(6))
	for range 5000 {
		l := someItems(rnd, 4)
		w := newWriter(t, api.MaxWire)
		writeItems(w, l)
		b, e := w.Done()
		if e != api.OK || !readItems(wire.NewReader(b), l) {
			t.Fatalf("%+v: %x, %d", l, b, e)
		}
	}
}

// Of a right reader At and Left together are always as much; what was read of it is its bytes up to At.
func TestAtAndLeft(t *testing.T) {
	rnd := rand.New(rand.NewSource(7))
	for range 2000 {
		b := someBytes(rnd, 40)
		r := wire.NewReader(b)
		var read []byte
		for range 10 {
			n := rnd.Intn(8)
			got := r.Raw(n)
			if e, _ := r.Err(); e != api.OK {
				break
			}
			read = append(read, got...)
			if r.At()+r.Left() != len(b) || !bytes.Equal(read, b[:r.At()]) {
				t.Fatalf("%x: At %d, Left %d, read %x", b, r.At(), r.Left(), read)
			}
		}
	}
}

// mostNested is how many parts can stand in one another, if nothing else does: the count of the one more could not be written.
const mostNested = 32768

func nest(w *wire.Writer, parts int) {
	var places []int
	for range parts {
		places = append(places, w.Open())
	}
	for i := range places {
		w.Shut(places[len(places)-1-i])
	}
}

func TestPartsDeep(t *testing.T) {
	w := newWriter(t, api.MaxWire)
	nest(w, mostNested)
	b, e := w.Done()
	if e != api.OK || len(b) != 2*mostNested {
		t.Fatalf("Done: %d bytes, %d", len(b), e)
	}
	r := wire.NewReader(b)
	for range mostNested {
		r = r.Part()
	}
	wantRight(t, r, 2*mostNested, 0)
	wantFault(t, r.Part(), api.ErrWireShort, 2*mostNested, 2*mostNested)

	w = newWriter(t, api.MaxWire)
	nest(w, mostNested+1)
	wantWrong(t, w, api.ErrWireLong, 2*mostNested+2)
}

// The chapter's examples, by their numbers.

func TestExample1(t *testing.T) {
	w := newWriter(t, 100)
	writeExample(w)
	wantWritten(t, w, "\x02\x01\x05\x00\x07\x02\x00\x61\x62\x01\x00\x00\x00")
}

func writeExample(w *wire.Writer) {
	w.U16(258)
	at := w.Open()
	w.U8(7)
	w.Text("ab")
	w.Shut(at)
	w.U32(1)
}

func TestExample2(t *testing.T) {
	w := newWriter(t, 100)
	writeExample(w)
	b, _ := w.Done()
	r := wire.NewReader(b)
	if n := r.U16(); n != 258 {
		t.Errorf("U16: %d", n)
	}
	p := r.Part()
	if p.At() != 4 {
		t.Errorf("the part is at %d", p.At())
	}
	if n, s := p.U8(), p.Text(); n != 7 || s != "ab" {
		t.Errorf("%d, %q", n, s)
	}
	p.End()
	wantRight(t, p, 9, 0)
	wantRight(t, r, 9, 4)
}

func TestExample3(t *testing.T) {
	r := reader("\x03\x00\x61\xc3\x28")
	if s := r.Text(); s != "" {
		t.Errorf("Text: %q", s)
	}
	wantFault(t, r, api.ErrWireText, 3, 0)
}

func TestExample4(t *testing.T) {
	w := newWriter(t, 3)
	w.U32(1)
	w.U8(1)
	wantWrong(t, w, api.ErrWireFull, 0)
}

func TestExample5(t *testing.T) {
	for most, want := range []string{"", "a", "a", "a\xc3\xa9", "a\xc3\xa9b"} {
		if got := wire.Cut("\x61\xc3\xa9\x62", most); got != want {
			t.Errorf("Cut to %d: %x", most, got)
		}
	}
	if got := wire.Cut("\xff\xfe", 1); got != "\xff" {
		t.Errorf("Cut: %x", got)
	}
}

// The chapter's errors have these numbers.
func TestErrors(t *testing.T) {
	for i, e := range []api.Errno{api.ErrWireShort, api.ErrWireFull, api.ErrWireText, api.ErrWireLong, api.ErrWireMore} {
		if int(e) != 10+i {
			t.Errorf("error %d: %d", 10+i, e)
		}
	}
	if api.OK != 0 || api.ErrArg != 1 {
		t.Errorf("OK, ErrArg: %d, %d", api.OK, api.ErrArg)
	}
}
