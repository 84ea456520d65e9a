package frame_test

import (
	"bytes"
	"math/rand"
	"slices"
	"testing"

	"verger/api"
	"verger/frame"
)

// A cutter does at each call what the plain model does, whatever the calls are.
func TestAsTheModel(t *testing.T) {
	rnd := rand.New(rand.NewSource(2))
	deaths := 0
	for range 3000 {
		limit := limits()[rnd.Intn(len(limits()))]
		c, m := newCutter(t, limit), &cutter{limit: int(limit)}
		for b := someStream(rnd, limit); len(b) > 0 && rnd.Intn(200) > 0; {
			switch rnd.Intn(8) {
			case 0, 1, 2:
				f, ok := c.Next()
				want, wantOK := m.next()
				if ok != wantOK || !bytes.Equal(f, want) {
					t.Fatalf("Next: %x, %v; want %x, %v", f, ok, want, wantOK)
				}
			case 3:
				n := append(limits(), notLimits()...)[rnd.Intn(20)]
				if e, want := c.Limit(n), m.turn(n); e != want {
					t.Fatalf("Limit(%d): %d; want %d", n, e, want)
				}
			default:
				chunk := b[:rnd.Intn(min(len(b), 1+rnd.Intn(60))+1)]
				n, want := c.Feed(chunk), m.feed(chunk)
				if n != want {
					t.Fatalf("Feed(%x): %d; want %d", chunk, n, want)
				}
				b = b[n:]
			}
			if !sameState(c, m) {
				t.Fatalf("behind %x it tells of itself what the model, %+v, does not", m.fed, m)
			}
		}
		if m.dead {
			deaths++
		}
	}
	if deaths < 300 || deaths > 2700 {
		t.Errorf("%d of 3000 died", deaths)
	}
}

// CHUNKS DO NOT MATTER: however b is cut, and whenever Next is asked: what Next gives is a beginning of what All goes through.
func TestChunksBeginning(t *testing.T) {
	rnd := rand.New(rand.NewSource(3))
	for range 3000 {
		limit := limits()[rnd.Intn(len(limits()))]
		b := someStream(rnd, limit)
		c := newCutter(t, limit)
		var got [][]byte
		for rest := b; len(rest) > 0 && rnd.Intn(100) > 0; {
			rest = rest[c.Feed(rest[:rnd.Intn(min(len(rest), 50)+1)]):]
			if f, ok := c.Next(); ok && rnd.Intn(2) == 0 {
				got = append(got, f)
			} else if ok {
				got = append(got, f)
				got = append(got, drain(c)...)
			}
		}
		want := collected(frame.All(b, limit))
		if len(got) > len(want) || !sameFrames(got, want[:len(got)]) {
			t.Fatalf("%x under %d: Next gives %x, All %x", b, limit, got, want)
		}
	}
}

// And all of that, if all of b is fed, and Next is asked as long as it gives something.
func TestChunksWhole(t *testing.T) {
	rnd := rand.New(rand.NewSource(4))
	for range 1000 {
		limit := limits()[rnd.Intn(len(limits()))]
		b := someStream(rnd, limit)
		want := collected(frame.All(b, limit))
		for _, chunk := range []int{1, 2, 3, 4, 5, 7, 64, 1 + rnd.Intn(300), 1 << 20} {
			if got := cutWhole(newCutter(t, limit), b, chunk); !sameFrames(got, want) {
				t.Fatalf("%x under %d in chunks of %d: Next gives %x, All %x", b, limit, chunk, got, want)
			}
		}
	}
}

// A stream of a few frames, cut at each two places.
func TestEachCut(t *testing.T) {
	want := [][]byte{framed(7, 1), framed(11, 2), framed(8, 3)}
	b := joined(joined(want...), said(513))
	for i := range len(b) + 1 {
		for j := i; j <= len(b); j++ {
			c := newCutter(t, 512)
			got := slices.Concat(cutWhole(c, b[:i], 99), cutWhole(c, b[i:j], 99), cutWhole(c, b[j:], 99))
			if !sameFrames(got, want) {
				t.Fatalf("cut at %d and %d: %x", i, j, got)
			}
			wantDead(t, c, 26, 3)
		}
	}
}

// The frames that were taken and the hand behind them are the bytes that were taken; of a dead cutter the first four bytes of the frame it died of stand behind them.
func TestNothingIsLost(t *testing.T) {
	rnd := rand.New(rand.NewSource(5))
	for range 3000 {
		limit := limits()[rnd.Intn(len(limits()))]
		b := someStream(rnd, limit)
		c := newCutter(t, limit)
		taken := 0
		var frames []byte
		for rest := b; len(rest) > 0 && rnd.Intn(50) > 0; {
			n := c.Feed(rest[:rnd.Intn(min(len(rest), 40)+1)])
			taken += n
			rest = rest[n:]
			f, _ := c.Next()
			frames = append(frames, f...)
		}
		if !bytes.Equal(frames, b[:len(frames)]) || len(frames) > taken {
			t.Fatalf("%x: %d bytes were taken, and frames %x", b, taken, frames)
		}
		hand := b[len(frames):taken]
		if e, at := c.Dead(); e != api.OK {
			if at != len(frames) || len(hand) != 4 || sizeOf(hand) >= 7 && sizeOf(hand) <= int(limit) {
				t.Fatalf("%x: dead at %d, %d bytes were taken", b, at, taken)
			}
			continue
		}
		wantHand(t, c, hand)
	}
}

// wantHand says what a cutter has in its hand, by making a frame of it.
func wantHand(t *testing.T, c *frame.Cutter, hand []byte) {
	t.Helper()
	c.Limit(65536)
	if len(hand) < 4 {
		// What is there may say any size: with these behind it, it says one that is right, or dies.
		behind := []byte{9, 1, 0, 0}[len(hand):]
		hand = joined(hand, behind)
		wantFed(t, c, behind, len(behind))
		if sizeOf(hand) < 7 || sizeOf(hand) > 65536 {
			return
		}
	}
	if sizeOf(hand) < len(hand) || sizeOf(hand) > 65536 {
		t.Fatalf("it lives, with %x in its hand", hand)
	}
	behind := bytes.Repeat([]byte{0x99}, sizeOf(hand)-len(hand))
	wantFed(t, c, append(behind, 1, 2), len(behind))
	wantNext(t, c, joined(hand, behind))
}

// The hand has never more bytes than the limit (of the moment at which its size came).
func TestHandWithinLimit(t *testing.T) {
	rnd := rand.New(rand.NewSource(6))
	long := make([]byte, 70000)
	for range 500 {
		limit := limits()[rnd.Intn(len(limits()))]
		copy(long, said(uint32(rnd.Intn(2*int(limit)))))
		c := newCutter(t, limit)
		if n := c.Feed(long); n > int(limit) {
			t.Fatalf("%x: %d bytes under %d", long[:4], n, limit)
		}
	}
}

// A cutter that is dead takes nothing, gives nothing, and tells the same for ever.
func TestDeadForEver(t *testing.T) {
	rnd := rand.New(rand.NewSource(7))
	for range 300 {
		c := newCutter(t, 100)
		frames := rnd.Intn(3)
		for range frames {
			c.Feed(framed(50, 1))
			c.Next()
		}
		c.Feed(said(uint32(101 + rnd.Intn(1000))))
		for range 20 {
			wantDead(t, c, 50*frames, frames)
			wantFed(t, c, someStream(rnd, 100), 0)
			c.Limit(uint32(rnd.Intn(70000)))
		}
	}
}

// The chapter's examples, by their numbers.

func TestExample1(t *testing.T) {
	c := newCutter(t, 512)
	wantFed(t, c, []byte{0x07, 0, 0, 0, 0x78, 1, 0, 0x08}, 7)
	wantLives(t, c, 0, 0)
	wantFed(t, c, []byte{8}, 0)
	wantNext(t, c, []byte{0x07, 0, 0, 0, 0x78, 1, 0})
	wantFed(t, c, []byte{8}, 1)
	wantLives(t, c, 3, 1)
}

func TestExample2(t *testing.T) {
	c := newCutter(t, 512)
	wantFed(t, c, []byte{6, 0, 0, 0, 1}, 4)
	wantDead(t, c, 0, 0)
	wantFed(t, c, []byte{1}, 0)
}

func TestExample3(t *testing.T) {
	c := newCutter(t, 8)
	wantFed(t, c, []byte{9, 0, 0}, 3)
	wantLives(t, c, 1, 0)
	wantLimit(t, c, 9)
	wantFed(t, c, []byte{0, 1}, 2)
	wantLives(t, c, 4, 0)
	wantLimit(t, c, 7)
	wantFed(t, c, []byte{2, 3, 4, 5, 6}, 4)
	wantLives(t, c, 0, 0)
	wantNext(t, c, []byte{9, 0, 0, 0, 1, 2, 3, 4, 5})
}

func TestExample4(t *testing.T) {
	one, two := framed(7, 1), framed(7, 2)
	wantAll(t, joined(one, two, []byte{0}), 512, one, two)
	wantAll(t, []byte{8, 0, 0, 0, 1, 2, 3}, 512)
}

// The chapter's errors have these numbers.
func TestErrors(t *testing.T) {
	if api.OK != 0 || api.ErrArg != 1 || api.ErrFrameSize != 40 {
		t.Errorf("OK, ErrArg, ErrFrameSize: %d, %d, %d", api.OK, api.ErrArg, api.ErrFrameSize)
	}
}
