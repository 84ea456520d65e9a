package nodes_test

import (
	"bytes"
	"math"
	"math/rand"
	"testing"

	"verger/api"
)

func writing(path, offset uint64, data []byte) api.Op {
	return api.Op{Kind: api.OpBytes, Path: path, Offset: offset, Data: data}
}

func cutting(path, size uint64) api.Op {
	return api.Op{Kind: api.OpCut, Path: path, Offset: size}
}

// counted is so many bytes, none of them 00.
func counted(size int) []byte {
	b := make([]byte, size)
	for i := range b {
		b[i] = byte(i%255 + 1)
	}
	return b
}

// withFile is a pair with a file, of path 2, and a directory, of path 3.
func withFile(t *testing.T) pair {
	t.Helper()
	p := newPair(t, 10)
	p.wantDo(t, making(1, "f", aFile), 2)
	p.wantDo(t, making(1, "d", aDir), 3)
	return p
}

func (p pair) wantLength(t *testing.T, path, want uint64) {
	t.Helper()
	if n, _ := p.s.Node(path); n.Length != want {
		t.Errorf("Length %d, want %d", n.Length, want)
	}
}

// The chapter's example 3.
func TestBytesExample(t *testing.T) {
	p := withFile(t)
	p.wantDo(t, writing(2, 250, []byte("abcdef")), 2)
	p.wantLength(t, 2, 256)
	p.wantRefused(t, writing(2, 250, []byte("abcdefg")), api.ErrNodeBlock)
	for _, r := range []struct {
		offset uint64
		n      int
		want   string
	}{{248, 4, "\x00\x00ab"}, {250, 9, "abcdef"}} {
		if b := p.s.Read(2, r.offset, r.n); string(b) != r.want {
			t.Errorf("Read(2, %d, %d): %q, want %q", r.offset, r.n, b, r.want)
		}
	}
	p.wantDo(t, cutting(2, 251), 2)
	p.wantDo(t, cutting(2, 253), 2)
	if b := p.s.Read(2, 250, 9); string(b) != "a\x00\x00" {
		t.Errorf("behind the cuts: %q", b)
	}
	p.wantSame(t)
}

// The chapter's example 4.
func TestBigExample(t *testing.T) {
	p := withFile(t)
	p.wantDo(t, writing(2, 65535, []byte("a")), 2)
	p.wantLength(t, 2, 65536)
	p.wantRefused(t, writing(2, 65536, []byte("a")), api.ErrNodeBig)
	p.wantRefused(t, cutting(2, 65537), api.ErrNodeBig)
	p.wantSame(t)
}

// How much data may be: as far as the end of the block in which it begins.
func TestBlocks(t *testing.T) {
	for _, block := range []uint64{0, 1, 7, 255} {
		for from := range uint64(256) {
			p := withFile(t)
			offset, room := block*256+from, 256-int(from)
			for _, size := range []int{room + 1, room + 255, room + 256, room + 257, 70000} {
				p.wantRefused(t, writing(2, offset, counted(size)), api.ErrNodeBlock)
			}
			p.wantRefused(t, writing(2, offset, nil), api.ErrNodeBlock)
			p.wantRefused(t, writing(2, offset, []byte{}), api.ErrNodeBlock)
			p.wantDo(t, writing(2, offset, counted(room)), 2)
			p.wantLength(t, 2, (block+1)*256)
			p.wantDo(t, writing(2, offset, []byte("x")), 2)
			p.wantRead(t, 2, 0, 65536)
		}
	}
}

// How far a file goes: of offsets that are too great, and of two errors that apply the first one.
func TestBig(t *testing.T) {
	p := withFile(t)
	for _, offset := range []uint64{65536, 65537, 65792, 1 << 31, 1<<32 - 1, 1 << 32, 1<<63 - 1, 1 << 63, math.MaxUint64 - 255, math.MaxUint64 - 1, math.MaxUint64} {
		room := 256 - int(offset%256)
		p.wantRefused(t, writing(2, offset, counted(1)), api.ErrNodeBig)
		p.wantRefused(t, writing(2, offset, counted(room)), api.ErrNodeBig)
		p.wantRefused(t, writing(2, offset, counted(room+1)), api.ErrNodeBlock)
		p.wantRefused(t, writing(2, offset, nil), api.ErrNodeBlock)
		p.wantRefused(t, writing(3, offset, nil), api.ErrNodeKind)
		p.wantRefused(t, writing(4, offset, nil), api.ErrNodeNone)
		if offset > 65536 {
			p.wantRefused(t, cutting(2, offset), api.ErrNodeBig)
		}
		p.wantRefused(t, cutting(3, offset), api.ErrNodeKind)
		p.wantRefused(t, cutting(4, offset), api.ErrNodeNone)
		p.wantRead(t, 2, offset, 1)
		p.wantRead(t, 2, offset, math.MaxInt)
	}
	p.wantDo(t, writing(2, 65280, counted(256)), 2)
	p.wantDo(t, cutting(2, 65536), 2)
	p.wantLength(t, 2, 65536)
	for _, path := range []uint64{1, 3} {
		p.wantRefused(t, cutting(path, 0), api.ErrNodeKind)
		p.wantRefused(t, writing(path, 0, counted(1)), api.ErrNodeKind)
		p.wantRefused(t, writing(path, 255, counted(2)), api.ErrNodeKind)
		p.wantLength(t, path, 0)
	}
	p.wantSame(t)
}

// A file cut to each length around the ends of blocks, from each such length, and made longer again: what was cut off is 00.
func TestCuts(t *testing.T) {
	lengths := []uint64{0, 1, 100, 255, 256, 257, 511, 512, 513, 1000, 1024}
	for _, was := range lengths {
		for _, to := range lengths {
			for _, again := range append(lengths, 65536) {
				p := withFile(t)
				p.fill(t, 2, was)
				p.wantDo(t, cutting(2, to), 2)
				p.wantLength(t, 2, to)
				p.wantRead(t, 2, 0, 2000)
				p.wantDo(t, cutting(2, again), 2)
				p.wantLength(t, 2, again)
				p.wantRead(t, 2, 0, 70000)
			}
			for _, offset := range lengths {
				p := withFile(t)
				p.fill(t, 2, was)
				p.wantDo(t, cutting(2, to), 2)
				p.wantDo(t, writing(2, offset, []byte("x")), 2)
				p.wantLength(t, 2, max(to, offset+1))
				p.wantRead(t, 2, 0, 2000)
			}
		}
	}
}

// fill writes a file's first bytes, block by block.
func (p pair) fill(t *testing.T, path, size uint64) {
	t.Helper()
	for at := uint64(0); at < size; at += 256 {
		p.wantDo(t, writing(path, at, counted(int(min(256, size-at)))), path)
	}
}

// A write within a file leaves all beside it, and the Length.
func TestWriteWithin(t *testing.T) {
	p := withFile(t)
	p.fill(t, 2, 700)
	for _, offset := range []uint64{0, 1, 200, 255, 256, 300, 511, 512, 690} {
		p.wantDo(t, writing(2, offset, []byte{0}), 2)
		p.wantDo(t, writing(2, offset, bytes.Repeat([]byte("y"), min(9, 256-int(offset%256)))), 2)
		p.wantLength(t, 2, 700)
		p.wantRead(t, 2, 0, 700)
	}
	p.wantDo(t, writing(2, 695, []byte("0123456789")), 2)
	p.wantLength(t, 2, 705)
	p.wantSame(t)
}

// What is read, from every place on, and how much of it.
func TestRead(t *testing.T) {
	p := withFile(t)
	p.wantRead(t, 2, 0, 10)
	p.fill(t, 2, 600)
	p.wantDo(t, writing(2, 2000, counted(48)), 2)
	p.wantDo(t, cutting(2, 2100), 2)
	places := []uint64{0, 1, 255, 256, 257, 511, 512, 599, 600, 601, 1023, 1024, 1999, 2000, 2047, 2048, 2049, 2099, 2100, 2101, 65535, 65536, 1 << 32, 1 << 63, math.MaxUint64}
	for _, offset := range places {
		for _, n := range []int{math.MinInt, -1, 0, 1, 2, 44, 254, 255, 256, 257, 512, 2099, 2100, 2101, 65536, math.MaxInt32, math.MaxInt - 1, math.MaxInt} {
			p.wantRead(t, 2, offset, n)
			for _, path := range []uint64{0, 1, 3, 4, math.MaxUint64} {
				p.wantRead(t, path, offset, n)
			}
		}
	}
	for offset := range uint64(2102) {
		p.wantRead(t, 2, offset, int(offset*7%600))
	}
}

// Two files, each with all of its bytes: what is written to the one is not in the other.
func TestWholeFiles(t *testing.T) {
	rnd := rand.New(rand.NewSource(2))
	p := newPair(t, 10)
	p.wantDo(t, making(1, "f", aFile), 2)
	p.wantDo(t, making(1, "g", aFile), 3)
	for _, path := range []uint64{2, 3} {
		p.fill(t, path, 65536)
		p.wantLength(t, path, 65536)
	}
	for range 2000 {
		offset := uint64(rnd.Intn(65536))
		p.do(t, writing(oneOf[uint64](rnd, 2, 3), offset, someData(rnd, offset)))
	}
	p.wantDo(t, cutting(2, 65535), 2)
	p.wantDo(t, cutting(3, 1), 3)
	p.wantDo(t, cutting(3, 65536), 3)
	p.wantSame(t)
}
