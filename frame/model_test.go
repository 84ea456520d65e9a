package frame_test

import (
	"bytes"
	"encoding/binary"
	"iter"
	"math/rand"
	"slices"
	"testing"

	"verger/api"
	"verger/frame"
)

// The model: what the chapter says, in the plainest way, to hold the package against.

// cutter takes its bytes one by one.
type cutter struct {
	limit  int
	hand   []byte
	fed    []byte // all bytes that it has taken
	frames [][]byte
	dead   bool
}

func (m *cutter) whole() bool {
	return !m.dead && len(m.hand) >= 4 && len(m.hand) >= sizeOf(m.hand)
}

func (m *cutter) feed(b []byte) int {
	n := 0
	for n < len(b) && !m.whole() && !m.dead {
		m.hand = append(m.hand, b[n])
		m.fed = append(m.fed, b[n])
		n++
		m.dead = len(m.hand) == 4 && (sizeOf(m.hand) < 7 || sizeOf(m.hand) > m.limit)
	}
	return n
}

func (m *cutter) next() ([]byte, bool) {
	if !m.whole() {
		return nil, false
	}
	f := m.hand
	m.frames = append(m.frames, f)
	m.hand = nil
	return f, true
}

func (m *cutter) want() int {
	switch {
	case m.dead || m.whole():
		return 0
	case len(m.hand) < 4:
		return 4 - len(m.hand)
	}
	return sizeOf(m.hand) - len(m.hand)
}

func (m *cutter) turn(limit uint32) api.Errno {
	if limit < 7 || limit > 65536 {
		return api.ErrArg
	}
	m.limit = int(limit)
	return api.OK
}

func (m *cutter) told() (api.Errno, int) {
	if !m.dead {
		return api.OK, 0
	}
	return api.ErrFrameSize, len(slices.Concat(m.frames...))
}

// all is the frames of b, found by their places in it.
func all(b []byte, msize uint32) [][]byte {
	var l [][]byte
	for msize >= 7 && msize <= 65536 && len(b) >= 4 {
		n := sizeOf(b)
		if n < 7 || n > int(msize) || n > len(b) {
			break
		}
		l = append(l, b[:n])
		b = b[n:]
	}
	return l
}

// sizeOf is what a frame's first four bytes say.
func sizeOf(b []byte) int { return int(binary.LittleEndian.Uint32(b)) }

// Helpers of all tests.

// limits are numbers that are limits, and notLimits such that are none.
func limits() []uint32 { return []uint32{7, 8, 9, 255, 256, 257, 511, 512, 8192, 65535, 65536} }

func notLimits() []uint32 {
	return []uint32{0, 1, 4, 5, 6, 65537, 65543, 65536 + 512, 1 << 17, 1 << 24, 1<<31 - 1, 1 << 31, 1<<31 + 7, 1<<32 - 7, 1<<32 - 1}
}

// said is a size as bytes.
func said(size uint32) []byte { return binary.LittleEndian.AppendUint32(nil, size) }

// framed is a frame of that size, with that byte all over behind its size.
func framed(size int, fill byte) []byte {
	return append(said(uint32(size)), bytes.Repeat([]byte{fill}, size-4)...)
}

func joined(l ...[]byte) []byte { return slices.Concat(l...) }

func newCutter(t *testing.T, msize uint32) *frame.Cutter {
	t.Helper()
	c := frame.New(msize)
	if c == nil {
		t.Fatalf("New(%d): nil", msize)
	}
	return c
}

// wantFed feeds, and says how much of it is taken.
func wantFed(t *testing.T, c *frame.Cutter, b []byte, want int) {
	t.Helper()
	if n := c.Feed(b); n != want {
		t.Errorf("Feed of %d bytes: %d; want %d", len(b), n, want)
	}
}

// wantLives says how a cutter stands that is not dead.
func wantLives(t *testing.T, c *frame.Cutter, want, taken int) {
	t.Helper()
	e, at := c.Dead()
	if e != api.OK || at != 0 || c.Want() != want || c.Whole() != (want == 0) || c.Taken() != taken {
		t.Errorf("Dead %d, %d, Want %d, Whole %v, Taken %d; want it to live, Want %d, Taken %d", e, at, c.Want(), c.Whole(), c.Taken(), want, taken)
	}
	if want > 0 {
		wantNothing(t, c)
	}
}

// wantDead says that a cutter is dead, and how many bytes it had taken ahead of the frame it died of.
func wantDead(t *testing.T, c *frame.Cutter, at, taken int) {
	t.Helper()
	e, got := c.Dead()
	if e != api.ErrFrameSize || got != at || c.Want() != 0 || c.Whole() || c.Taken() != taken {
		t.Errorf("Dead %d, %d, Want %d, Whole %v, Taken %d; want it to be dead at %d, Taken %d", e, got, c.Want(), c.Whole(), c.Taken(), at, taken)
	}
	wantNothing(t, c)
}

// wantNothing says that Next gives nothing.
func wantNothing(t *testing.T, c *frame.Cutter) {
	t.Helper()
	taken := c.Taken()
	if f, ok := c.Next(); ok || len(f) != 0 || c.Taken() != taken {
		t.Errorf("Next: %x, %v, Taken %d; want nothing", f, ok, c.Taken())
	}
}

// wantNext says that Next gives just this frame, and that the hand is empty then.
func wantNext(t *testing.T, c *frame.Cutter, want []byte) {
	t.Helper()
	taken := c.Taken()
	f, ok := c.Next()
	if !ok || !bytes.Equal(f, want) {
		t.Errorf("Next: %x, %v; want %x", f, ok, want)
	}
	wantLives(t, c, 4, taken+1)
}

// wantAll says what All goes through.
func wantAll(t *testing.T, b []byte, msize uint32, want ...[]byte) {
	t.Helper()
	if got := collected(frame.All(b, msize)); !sameFrames(got, want) {
		t.Errorf("All(%x, %d): %x; want %x", b, msize, got, want)
	}
}

// mostFrames is more than any stream of these tests has: what gives more has lost its way, and would perhaps not end.
const mostFrames = 1000

func collected(seq iter.Seq[[]byte]) [][]byte {
	var l [][]byte
	for f := range seq {
		l = append(l, f)
		if len(l) == mostFrames {
			break
		}
	}
	return l
}

func sameFrames(a, b [][]byte) bool { return slices.EqualFunc(a, b, bytes.Equal) }

// sameState tells whether a cutter tells of itself what the model does.
func sameState(c *frame.Cutter, m *cutter) bool {
	e, at := c.Dead()
	wantE, wantAt := m.told()
	return e == wantE && at == wantAt && c.Whole() == m.whole() && c.Want() == m.want() && c.Taken() == len(m.frames)
}

// drain takes frames as long as there are some.
func drain(c *frame.Cutter) [][]byte {
	var l [][]byte
	for f, ok := c.Next(); ok && len(l) < mostFrames; f, ok = c.Next() {
		l = append(l, f)
	}
	return l
}

// cutWhole feeds b in chunks of so many bytes, again from where Feed ended, and asks Next as long as it gives something.
func cutWhole(c *frame.Cutter, b []byte, chunk int) [][]byte {
	var l [][]byte
	for len(b) > 0 {
		n := c.Feed(b[:min(chunk, len(b))])
		b = b[n:]
		next := drain(c)
		l = append(l, next...)
		if n == 0 && len(next) == 0 {
			break
		}
	}
	return l
}

// someStream is some frames that are right under the limit; now and then what is none behind them, or a part of one.
func someStream(rnd *rand.Rand, limit uint32) []byte {
	var b []byte
	for range rnd.Intn(6) {
		b = append(b, framed(someSize(rnd, limit), byte(rnd.Intn(256)))...)
	}
	switch rnd.Intn(5) {
	case 0:
		b = append(b, said(uint32(rnd.Intn(7)))...)
	case 1:
		b = append(b, said(limit+1+uint32(rnd.Intn(1<<rnd.Intn(31))))...)
	case 2:
		f := framed(someSize(rnd, limit), 0xaa)
		b = append(b, f[:rnd.Intn(len(f))]...)
	}
	for range rnd.Intn(20) {
		b = append(b, byte(rnd.Intn(1<<rnd.Intn(9))))
	}
	return b
}

// someSize is a size that is right under the limit, its edges among all.
func someSize(rnd *rand.Rand, limit uint32) int {
	switch rnd.Intn(4) {
	case 0:
		return 7
	case 1:
		return int(min(limit, 300))
	}
	return 7 + rnd.Intn(int(min(limit, 300))-6)
}
