package frame_test

import (
	"bytes"
	"math/rand"
	"runtime"
	"slices"
	"testing"

	"verger/api"
	"verger/frame"
)

// R1: nothing panics and all ends, whatever bytes and numbers are handed in, in whatever order.
func TestNothingPanics(t *testing.T) {
	rnd := rand.New(rand.NewSource(8))
	for range 20000 {
		b := make([]byte, rnd.Intn(60))
		for i := range b {
			b[i] = byte(rnd.Intn(1 << (1 + rnd.Intn(8))))
		}
		limit := rnd.Uint32() >> rnd.Intn(32)
		for f := range frame.All(b, limit) {
			if len(f) < 7 || len(f) > int(limit) {
				t.Fatalf("All(%x, %d): %x", b, limit, f)
			}
		}
		c := frame.New(limit)
		if c == nil {
			continue
		}
		for range 10 {
			n := c.Feed(b)
			b = b[n:]
			c.Limit(rnd.Uint32() >> rnd.Intn(32))
			c.Feed(nil)
			if rnd.Intn(2) == 0 {
				c.Next()
			}
			c.Want()
			c.Whole()
			c.Dead()
			c.Taken()
		}
	}
}

// R1: all bytes alike, the extremes of a size among them.
func TestExtremes(t *testing.T) {
	for fill := range 256 {
		b := bytes.Repeat([]byte{byte(fill)}, 70000)
		for _, limit := range append(limits(), notLimits()...) {
			wantAll(t, b[:2000], limit, all(b[:2000], limit)...)
		}
		c := newCutter(t, 65536)
		wantFed(t, c, b, 4)
		wantDead(t, c, 0, 0)
	}
}

// R2: what is handed in is not written into, nor its spare room; and it may be changed later.
func TestHandedInStays(t *testing.T) {
	one, two := framed(30, 1), framed(20, 2)
	room := joined(one, two, []byte("spare room"))
	was := slices.Clone(room)
	frame.All(room[:50], 512)
	got := collected(frame.All(room[:50], 512))
	c := newCutter(t, 512)
	wantFed(t, c, room[:3], 3)
	wantFed(t, c, room[3:10], 7)
	wantFed(t, c, room[10:50], 20)
	if !bytes.Equal(room, was) || !sameFrames(got, [][]byte{one, two}) {
		t.Errorf("bytes were written into: %x", room)
	}
	clear(room)
	wantNext(t, c, one)

	for _, cuts := range [][]int{{0, 20}, {0, 1, 20}, {0, 4, 20}, {0, 2, 7, 20}} {
		c = newCutter(t, 512)
		for i := range len(cuts) - 1 {
			chunk := slices.Clone(two[cuts[i]:cuts[i+1]])
			wantFed(t, c, chunk, len(chunk))
			clear(chunk[:cap(chunk)])
		}
		wantNext(t, c, two)
	}
}

// R2: a frame that was taken stays when the bytes that it was cut of change, and when others come.
func TestTakenStays(t *testing.T) {
	one, two := framed(30, 1), framed(30, 2)
	c := newCutter(t, 512)
	b := joined(one, two)
	c.Feed(b)
	first, _ := c.Next()
	c.Feed(b[30:])
	clear(b)
	second, _ := c.Next()
	c.Feed(framed(30, 3))
	c.Next()
	if !bytes.Equal(first, one) || !bytes.Equal(second, two) {
		t.Errorf("%x, %x", first, second)
	}
}

// spoil changes all of a list, and its spare room.
func spoil(b []byte) {
	b = b[:cap(b)]
	for i := range b {
		b[i] = 0xee
	}
}

// R2: what comes out is new memory, spare room too: whoever writes into it changes nothing that comes later.
func TestComesOutNew(t *testing.T) {
	for _, size := range []int{7, 8, 30, 100, 512} {
		one, two := framed(size, 1), framed(size, 2)
		b := joined(one, two, one)
		c := newCutter(t, 512)
		for i := range 3 {
			// What is in the hand while the earlier frame is spoilt must not hang on it.
			wantFed(t, c, b[i*size:i*size+5], 5)
			wantFed(t, c, b[i*size+5:], size-5)
			f, ok := c.Next()
			if !ok || !bytes.Equal(f, b[i*size:(i+1)*size]) {
				t.Errorf("%d: %x", i, f)
			}
			spoil(f)
		}
		if !bytes.Equal(b, joined(one, two, one)) {
			t.Errorf("a frame shares memory with what was fed: %x", b)
		}
		wantFed(t, c, two[:6], 6)
		f, _ := c.Next()
		spoil(f)
		wantFed(t, c, two[6:], size-6)
		wantNext(t, c, two)
	}
}

// R2: also of All: frames share memory neither with b nor with one another, nor with those of another range.
func TestAllComesOutNew(t *testing.T) {
	want := [][]byte{framed(7, 1), framed(30, 2), framed(9, 3)}
	b := joined(want...)
	seq := frame.All(b, 512)
	for range 2 {
		var got [][]byte
		for f := range seq {
			got = append(got, slices.Clone(f))
			spoil(f)
		}
		if !sameFrames(got, want) {
			t.Errorf("frames share memory: %x", got)
		}
	}
	kept := collected(seq)
	spoil(kept[0])
	if !sameFrames(kept[1:], want[1:]) || !bytes.Equal(b, joined(want...)) {
		t.Errorf("frames share memory: %x", kept)
	}
	for f := range seq {
		spoil(f)
		if again := collected(seq); !sameFrames(again, want) {
			t.Errorf("a range within shares memory: %x", again)
		}
	}
}

// R3: cutters know nothing of one another, and All nothing of them.
func TestApart(t *testing.T) {
	one, two := framed(20, 1), framed(30, 2)
	a, b := newCutter(t, 512), newCutter(t, 25)
	wantFed(t, a, one[:10], 10)
	wantFed(t, b, two, 4)
	wantDead(t, b, 0, 0)
	wantLives(t, a, 10, 0)
	wantLimit(t, b, 7)
	wantAll(t, joined(one, two), 512, one, two)
	wantFed(t, a, one[10:], 10)
	wantNext(t, a, one)
	wantFed(t, a, two, 30)
	wantNext(t, a, two)
	wantDead(t, b, 0, 0)
	wantLives(t, newCutter(t, 7), 4, 0)
}

// R3: what only tells changes nothing, however often it is asked.
func TestTellingChangesNothing(t *testing.T) {
	b := joined(framed(9, 1), framed(7, 2), []byte{5, 0, 0, 0})
	c, m := newCutter(t, 512), &cutter{limit: 512}
	for rest := b; len(rest) > 0; {
		for range 3 {
			if !sameState(c, m) {
				t.Fatalf("behind %x", m.fed)
			}
		}
		n := c.Feed(rest[:1])
		m.feed(rest[:1])
		rest = rest[n:]
		f, _ := c.Next()
		if want, _ := m.next(); !bytes.Equal(f, want) {
			t.Fatalf("behind %x: %x", m.fed, f)
		}
	}
	wantDead(t, c, 16, 2)
}

// R4: nothing goes on when a call has answered.
func TestNoGoroutines(t *testing.T) {
	was := runtime.NumGoroutine()
	b := joined(framed(9, 1), framed(7, 2), []byte{5, 0, 0, 0})
	for range frame.All(b, 512) {
		break
	}
	collected(frame.All(b, 512))
	cutWhole(newCutter(t, 512), b, 3)
	if n := runtime.NumGoroutine(); n > was {
		t.Errorf("%d goroutines more", n-was)
	}
}

// R5: an error that is answered is one of the chapter's.
func TestErrorsOfTheChapter(t *testing.T) {
	rnd := rand.New(rand.NewSource(9))
	for range 2000 {
		c := newCutter(t, 512)
		cutWhole(c, someStream(rnd, 600), 1+rnd.Intn(50))
		if e, _ := c.Dead(); e != api.OK && e != api.ErrFrameSize {
			t.Fatalf("Dead: %d", e)
		}
		if e := c.Limit(rnd.Uint32() >> rnd.Intn(32)); e != api.OK && e != api.ErrArg {
			t.Fatalf("Limit: %d", e)
		}
	}
}
