package wire_test

import (
	"bytes"
	"math"
	"math/rand"
	"runtime"
	"testing"

	"verger/api"
	"verger/wire"
)

// R1: nothing panics, at whatever numbers and in whatever order.
func TestNothingPanics(t *testing.T) {
	numbers := []int{math.MinInt, math.MinInt + 1, -65536, -1, 0, 1, 2, 65535, 65536, math.MaxInt - 1, math.MaxInt}
	for _, n := range numbers {
		wire.Cut("a\xff€", n)
		r := reader("\x01\x00a\x01\x00a")
		r.Raw(n)
		r.Part().Raw(n)
		r.Fail(api.Errno(n))
		r.Part().Part().End()
		w := newWriter(t, 10)
		w.Open()
		w.Shut(n)
		w.Shut(n)
		if w, e := wire.NewWriter(n); e == api.OK {
			w.Shut(n)
			w.Open()
			w.Shut(n)
		}
	}
}

// R1: where several calls go wrong, the first one is told.
func TestFirstErrorIsTold(t *testing.T) {
	w := newWriter(t, 4)
	w.Text("\xff")
	w.U64(1)
	w.Shut(9)
	wantWrong(t, w, api.ErrWireText, 0)
	r := reader("\x01\x00\xff")
	r.U32()
	r.Text()
	r.Raw(-1)
	r.End()
	wantFault(t, r, api.ErrWireShort, 0, 0)
}

// R2: what is handed in is not written into, nor its spare room; and it may be changed later.
func TestHandedInStays(t *testing.T) {
	room := []byte("abcdefgh")
	w := newWriter(t, 100)
	w.Raw(room[:3])
	w.U32(0xffffffff)
	w.Raw(room[3:5])
	at := w.Open()
	w.Shut(at)
	if string(room) != "abcdefgh" {
		t.Errorf("Raw wrote into what it was given: %q", room)
	}
	copy(room, "zzzzzzzz")
	wantWritten(t, w, "abc\xff\xff\xff\xffde\x00\x00")

	room = []byte("\x03\x00abcdefgh")
	r := wire.NewReader(room[:7])
	copy(room, "zzzzzzzz")
	p := r.Part()
	if b := p.Raw(3); string(b) != "abc" {
		t.Errorf("Raw: %q", b)
	}
	if b := r.Raw(2); string(b) != "de" {
		t.Errorf("Raw: %q", b)
	}
	r.U8()
	wantFault(t, r, api.ErrWireShort, 7, 7)
	if string(room) != "zzzzzzzzgh" {
		t.Errorf("a reader wrote into what it was given: %q", room)
	}
}

// spoil changes all of a list, and its spare room.
func spoil(b []byte) {
	b = b[:cap(b)]
	for i := range b {
		b[i] = 0xee
	}
}

// R2: what comes out is new memory, spare room too.
func TestComesOutNew(t *testing.T) {
	w := newWriter(t, 100)
	w.Raw([]byte("abc"))
	first, _ := w.Done()
	second, _ := w.Done()
	spoil(first)
	if string(second) != "abc" {
		t.Errorf("two lists of Done share memory: %q", second)
	}
	w.Raw([]byte("de"))
	wantWritten(t, w, "abcde")
	if string(second) != "abc" {
		t.Errorf("what Done gave changed: %q", second)
	}
	w.U8('f')
	spoil(second)
	wantWritten(t, w, "abcdef")

	given := []byte("abcdef\x02\x00ghijkl")
	r := wire.NewReader(given)
	one := r.Raw(2)
	two := r.Raw(2)
	spoil(one)
	if string(two) != "cd" {
		t.Errorf("two lists of Raw share memory: %q", two)
	}
	spoil(two)
	spoil(r.Raw(0))
	three := r.Raw(2)
	p := r.Part()
	spoil(three)
	spoil(p.Raw(1))
	if a, b := p.Raw(1), r.Raw(2); string(a) != "h" || string(b) != "ij" {
		t.Errorf("behind lists that were changed: %q, %q", a, b)
	}
	if string(given) != "abcdef\x02\x00ghijkl" {
		t.Errorf("Raw gave what was handed in: %q", given)
	}
}

// R2: a list with nothing in it may be nil.
func TestNilIsEmpty(t *testing.T) {
	w := newWriter(t, 0)
	w.Raw(nil)
	w.Raw([]byte{})
	wantWritten(t, w, "")
	wantRight(t, wire.NewReader(nil), 0, 0)
}

// R3: what is done with one object nothing else knows of.
func TestObjectsAreApart(t *testing.T) {
	a, b := newWriter(t, 3), newWriter(t, 100)
	a.U64(1)
	b.U16(0x6261)
	at := b.Open()
	wantWrong(t, a, api.ErrWireFull, 0)
	b.Shut(at)
	wantWritten(t, b, "ab\x00\x00")

	bytesOf := []byte("\x03\x00\x01\x00xyz")
	r, s := wire.NewReader(bytesOf), wire.NewReader(bytesOf)
	p, q := r.Part(), s.Part()
	p.Fail(api.ErrMsgBody)
	wantRight(t, r, 5, 2)
	wantRight(t, q, 2, 3)
	r.U64()
	wantFault(t, r, api.ErrWireShort, 5, 5)
	wantRight(t, s, 5, 2)
	inner := q.Part()
	q.Fail(api.ErrPerm)
	if n := inner.U8(); n != 'x' {
		t.Errorf("U8: %d", n)
	}
	inner.End()
	wantRight(t, inner, 5, 0)
	s.U16()
	wantRight(t, s, 7, 0)
}

// R3: the same calls are answered the same, whenever they are asked.
func TestSameAgain(t *testing.T) {
	once := func() []byte {
		rnd := rand.New(rand.NewSource(8))
		w := newWriter(t, 60000)
		for range 50 {
			writeItems(w, someItems(rnd, 3))
		}
		b, _ := w.Done()
		return b
	}
	first := once()
	if len(first) == 0 || !bytes.Equal(first, once()) {
		t.Errorf("the same calls wrote other bytes")
	}
}

// R4: nothing goes on when a call has answered.
func TestNoGoroutines(t *testing.T) {
	was := runtime.NumGoroutine()
	w := newWriter(t, 100)
	writeExample(w)
	b, _ := w.Done()
	wire.NewReader(b).Part().Text()
	wire.Good(string(b))
	wire.Cut(string(b), 3)
	if n := runtime.NumGoroutine(); n > was {
		t.Errorf("%d goroutines more", n-was)
	}
}
