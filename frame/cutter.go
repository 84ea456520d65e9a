package frame

import (
	"slices"

	"verger/api"
)

// sizeBytes is how many bytes at a frame's front say how many it has in all.
const sizeBytes = 4

// Cutter cuts a stream of bytes into frames, whatever its chunks are.
type Cutter struct {
	limit uint32
	size  [sizeBytes]byte // the first bytes of the hand
	sized int             // how many of these have come
	rest  []byte          // the hand's bytes behind them
	fed   int             // how many bytes were taken ever
	taken int             // how many frames were taken by Next
	dead  bool
}

// New is a Cutter of frames of at most msize bytes; nil, if that is no limit.
func New(msize uint32) *Cutter {
	if !isLimit(msize) {
		return nil
	}
	return &Cutter{limit: msize}
}

// Feed takes bytes, up to the end of the frame that it is at; how many it took.
func (c *Cutter) Feed(b []byte) int {
	n := c.feedSize(b)
	n += c.feedRest(b[n:])
	c.fed += n
	return n
}

// feedSize takes what is missing of the size. Only who takes its last byte asks whether it is right: a limit that is turned later is not asked of this frame.
func (c *Cutter) feedSize(b []byte) int {
	if c.sized == sizeBytes {
		return 0
	}
	n := copy(c.size[c.sized:], b)
	c.sized += n
	c.dead = c.sized == sizeBytes && !isRight(c.says(), c.limit)
	return n
}

// feedRest takes what is missing behind the size. (While the size is not there in full, no byte is left to be taken.)
func (c *Cutter) feedRest(b []byte) int {
	n := min(len(b), c.Want())
	c.rest = append(c.rest, b[:n]...)
	return n
}

// says is how many bytes the frame has by what its first ones say.
func (c *Cutter) says() uint32 {
	var n uint32
	for i, b := range c.size {
		n |= uint32(b) << (8 * i)
	}
	return n
}

// Next takes the frame that is whole.
func (c *Cutter) Next() ([]byte, bool) {
	if !c.Whole() {
		return nil, false
	}
	f := slices.Concat(c.size[:], c.rest)
	c.sized, c.rest = 0, nil
	c.taken++
	return f, true
}

// Whole tells whether Next has one.
func (c *Cutter) Whole() bool { return !c.dead && c.Want() == 0 }

// Want is how many bytes are missing till the next thing is known.
func (c *Cutter) Want() int {
	if c.dead {
		return 0
	}
	if c.sized < sizeBytes {
		return sizeBytes - c.sized
	}
	return int(c.says()) - sizeBytes - len(c.rest)
}

// Limit turns the greatest size, for the frames whose size is not there in full yet.
func (c *Cutter) Limit(msize uint32) api.Errno {
	if !isLimit(msize) {
		return api.ErrArg
	}
	c.limit = msize
	return api.OK
}

// Dead is the error by which the stream can't be cut further, and how many bytes stand ahead of the frame that it died of.
func (c *Cutter) Dead() (api.Errno, int) {
	if !c.dead {
		return api.OK, 0
	}
	return api.ErrFrameSize, c.fed - sizeBytes
}

// Taken is how many frames were taken.
func (c *Cutter) Taken() int { return c.taken }
