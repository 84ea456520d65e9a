package frame_test

import (
	"bytes"
	"testing"

	"verger/api"
	"verger/frame"
)

func TestNew(t *testing.T) {
	for _, n := range limits() {
		c := newCutter(t, n)
		wantLives(t, c, 4, 0)
		wantFed(t, c, nil, 0)
		wantLives(t, c, 4, 0)
	}
	for _, n := range notLimits() {
		if frame.New(n) != nil {
			t.Errorf("New(%d): one", n)
		}
	}
}

// A size is right, if it is at least 7 and at most the limit.
func TestRightSizes(t *testing.T) {
	for _, limit := range limits() {
		for _, size := range []uint32{7, 8, (7 + limit) / 2, limit - 1, limit} {
			if size < 7 || size > limit {
				continue
			}
			c := newCutter(t, limit)
			f := framed(int(size), 0x55)
			wantFed(t, c, f[:4], 4)
			wantLives(t, c, int(size)-4, 0)
			wantFed(t, c, f[4:len(f)-1], len(f)-5)
			wantLives(t, c, 1, 0)
			wantFed(t, c, f[len(f)-1:], 1)
			wantLives(t, c, 0, 0)
			wantNext(t, c, f)
		}
	}
}

// It dies when it takes the fourth byte, and takes that one too, and no other.
func TestWrongSizes(t *testing.T) {
	for _, limit := range limits() {
		wrong := []uint32{0, 1, 2, 3, 4, 5, 6, limit + 1, limit + 256, 65537, 1 << 24, 1<<24 + 7, 7 << 24, 1<<31 + 7, 1<<32 - 1}
		for _, size := range wrong {
			b := append(said(size), 1, 2, 3, 4, 5)
			c := newCutter(t, limit)
			wantFed(t, c, b[:3], 3)
			wantLives(t, c, 1, 0)
			wantFed(t, c, b[3:], 1)
			wantDead(t, c, 0, 0)
			wantFed(t, c, b, 0)
			wantFed(t, c, framed(7, 0), 0)
			wantDead(t, c, 0, 0)

			c = newCutter(t, limit)
			wantFed(t, c, b, 4)
			wantDead(t, c, 0, 0)
		}
	}
}

// The size's lowest byte comes first, and all four of them count.
func TestSizeBytes(t *testing.T) {
	c := newCutter(t, 65536)
	wantFed(t, c, []byte{0x08, 0x07, 0x00, 0x00}, 4)
	wantLives(t, c, 0x0708-4, 0)
	c = newCutter(t, 65536)
	wantFed(t, c, []byte{0x00, 0x00, 0x01, 0x00}, 4)
	wantLives(t, c, 65536-4, 0)
	for _, b := range [][]byte{{0x01, 0x00, 0x01, 0x00}, {0x08, 0x00, 0x00, 0x01}, {0x00, 0x00, 0x00, 0x07}, {0x00, 0x00, 0x02, 0x00}} {
		c = newCutter(t, 65536)
		wantFed(t, c, b, 4)
		wantDead(t, c, 0, 0)
	}
}

// Feed ends where a frame does, and takes nothing more till somebody takes that frame.
func TestFeedEndsBehindAFrame(t *testing.T) {
	one, two := framed(9, 1), framed(7, 2)
	b := joined(one, two, []byte{7, 0})
	c := newCutter(t, 512)
	wantFed(t, c, b, 9)
	wantLives(t, c, 0, 0)
	for range 3 {
		wantFed(t, c, b[9:], 0)
		wantFed(t, c, nil, 0)
		wantLives(t, c, 0, 0)
	}
	wantNext(t, c, one)
	wantFed(t, c, b[9:], 7)
	wantNext(t, c, two)
	wantFed(t, c, b[16:], 2)
	wantLives(t, c, 2, 2)
}

// Fed byte by byte, it tells at each byte how many are missing till it knows more.
func TestWant(t *testing.T) {
	f := framed(300, 3)
	c := newCutter(t, 300)
	for i := range f {
		want := 300 - i
		if i < 4 {
			want = 4 - i
		}
		wantLives(t, c, want, 0)
		wantFed(t, c, f[i:i+1], 1)
	}
	wantLives(t, c, 0, 0)
	wantNext(t, c, f)
}

// Whoever feeds just what is wanted never feeds too much.
func TestWantIsTaken(t *testing.T) {
	b := joined(framed(7, 1), framed(512, 2), framed(8, 3), said(513))
	c := newCutter(t, 512)
	taken := 0
	for rest := b; len(rest) > 0; {
		n := c.Want()
		if n < 1 || n > len(rest) {
			t.Fatalf("Want %d with %d bytes to come", n, len(rest))
		}
		wantFed(t, c, rest[:n], n)
		rest = rest[n:]
		if _, ok := c.Next(); ok {
			taken++
		}
	}
	wantDead(t, c, 527, 3)
	if taken != 3 {
		t.Errorf("%d frames", taken)
	}
}

func TestNext(t *testing.T) {
	c := newCutter(t, 16)
	wantNothing(t, c)
	f := []byte{10, 0, 0, 0, 0x78, 1, 0, 0xff, 0, 0x80}
	for i := range f {
		wantFed(t, c, f[i:i+1], 1)
		if i < len(f)-1 {
			wantNothing(t, c)
		}
	}
	if got, ok := c.Next(); !ok || !bytes.Equal(got, f) {
		t.Errorf("Next: %x, %v", got, ok)
	}
	wantNothing(t, c)
	wantLives(t, c, 4, 1)
}

func TestTaken(t *testing.T) {
	c := newCutter(t, 65536)
	for n := range 300 {
		f := framed(7+n, byte(n))
		if c.Taken() != n {
			t.Fatalf("Taken: %d; want %d", c.Taken(), n)
		}
		wantFed(t, c, f, len(f))
		if c.Taken() != n {
			t.Fatalf("Taken, of a frame that stands there: %d; want %d", c.Taken(), n)
		}
		wantNext(t, c, f)
	}
}

// A limit that is none is refused, and changes nothing.
func TestLimitRefused(t *testing.T) {
	for _, n := range notLimits() {
		c := newCutter(t, 9)
		if e := c.Limit(n); e != api.ErrArg {
			t.Errorf("Limit(%d): %d", n, e)
		}
		wantLives(t, c, 4, 0)
		wantFed(t, c, framed(9, 1), 9)
		wantNext(t, c, framed(9, 1))
		wantFed(t, c, framed(10, 1), 4)
		wantDead(t, c, 9, 1)
		if e := c.Limit(n); e != api.ErrArg {
			t.Errorf("Limit(%d) of a dead one: %d", n, e)
		}
	}
}

func wantLimit(t *testing.T, c *frame.Cutter, n uint32) {
	t.Helper()
	if e := c.Limit(n); e != api.OK {
		t.Errorf("Limit(%d): %d", n, e)
	}
}

func TestLimitTurned(t *testing.T) {
	for _, n := range limits() {
		c := newCutter(t, 8192)
		wantLimit(t, c, n)
		wantLives(t, c, 4, 0)
		f := framed(int(n), 7)
		wantFed(t, c, f, len(f))
		wantNext(t, c, f)
		wantFed(t, c, said(n+1), 4)
		wantDead(t, c, int(n), 1)
	}
}

// The limit of the moment at which the fourth byte is taken is the one that is asked.
func TestLimitOfTheMoment(t *testing.T) {
	f := framed(20, 1)
	for have := range 4 {
		c := newCutter(t, 20)
		wantFed(t, c, f[:have], have)
		wantLimit(t, c, 19)
		wantFed(t, c, f[have:], 4-have)
		wantDead(t, c, 0, 0)

		c = newCutter(t, 19)
		wantFed(t, c, f[:have], have)
		wantLimit(t, c, 20)
		wantLives(t, c, 4-have, 0)
		wantFed(t, c, f[have:], 20-have)
		wantNext(t, c, f)
	}
}

// A size that was right stays right, whatever the limit is turned to, and whatever is fed or not.
func TestRightStaysRight(t *testing.T) {
	f := framed(20, 1)
	for have := 4; have <= 20; have++ {
		c := newCutter(t, 20)
		wantFed(t, c, f[:have], have)
		wantLimit(t, c, 7)
		wantLives(t, c, 20-have, 0)
		wantFed(t, c, nil, 0)
		wantLives(t, c, 20-have, 0)
		wantFed(t, c, joined(f, f)[have:], 20-have)
		wantNext(t, c, f)
		wantFed(t, c, f, 4)
		wantDead(t, c, 20, 1)
	}
}

// Of a frame that died the limit is asked no more.
func TestDeadStaysDead(t *testing.T) {
	c := newCutter(t, 19)
	wantFed(t, c, framed(20, 1), 4)
	for _, n := range limits() {
		wantLimit(t, c, n)
		wantDead(t, c, 0, 0)
		wantFed(t, c, framed(20, 1)[4:], 0)
		wantFed(t, c, framed(7, 1), 0)
		wantDead(t, c, 0, 0)
	}
}

// Dead tells how many bytes were taken ahead of the frame that it died of.
func TestDeadAt(t *testing.T) {
	for _, chunk := range []int{1, 2, 3, 4, 5, 7, 100, 1000} {
		for n := range 4 {
			var frames [][]byte
			for i := range n {
				frames = append(frames, framed(7+100*i, byte(i)))
			}
			b := joined(frames...)
			c := newCutter(t, 512)
			if got := cutWhole(c, append(b, 6, 0, 0, 0, 9, 9, 9), chunk); !sameFrames(got, frames) {
				t.Errorf("%d frames, in chunks of %d: %x", n, chunk, got)
			}
			wantDead(t, c, len(b), n)
		}
	}
}
