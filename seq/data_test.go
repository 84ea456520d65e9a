package seq_test

import (
	"bytes"
	"math"
	"testing"

	"verger/api"
)

// The chapter's example 3.
func TestDataExample(t *testing.T) {
	p := withSession(t, config())
	p.fid(t, annRoot, 1)
	p.done(t, 1, aCreate(1, "x", 0666, 2))
	q := aWrite(1, 250, "0123456789")
	p.wantPlan(t, 1, q, api.Msg{Count: 10}, nil, []api.Piece{written(2, 250, "012345"), written(2, 256, "6789"), markedBy(2, "ann", 5)})
	p.wantFoot(t, 1, q, fidAlone(1), nodeAlone(2))
	p.done(t, 1, q)
	q = aRead(1, 248, 100)
	p.wantPlan(t, 1, q, api.Msg{}, nil, []api.Piece{readFrom(2, 248, 8), readFrom(2, 256, 4)})
	p.wantFoot(t, 1, q, fidAlone(1), nodeTogether(2))
	if r := p.done(t, 1, q); string(r.Data) != "\x00\x000123456789" {
		t.Errorf("%q", r.Data)
	}
}

// Tread of files, and Twrite: by what they are refused, the first that fails.
func TestDataRefused(t *testing.T) {
	p := stage(t, config())
	p.refused(t, 1, api.ErrFid, aRead(noSuch, 0, 10), aWrite(noSuch, 70000, "x"), aRead(noFid, 0, 0))
	p.refused(t, 1, api.ErrGone, aRead(shutGone, 0, 10), aRead(openGone, 5, 0), aWrite(shutGone, 70000, "x"), aWrite(openGone, 70000, "x"), aWrite(openGone, 0, ""))
	p.refused(t, 1, api.ErrShut, aRead(annX, 0, 10), aRead(bobX, 0, 0), aRead(writeX, 0, 10), aRead(annRoot, 5, 10), aRead(bobRoot, 0, 10))
	p.refused(t, 1, api.ErrShut, aWrite(annX, 70000, "x"), aWrite(readX, 70000, "x"), aWrite(execX, 0, "x"), aWrite(execX, 0, ""), aWrite(openRoot, 0, "x"), aWrite(annRoot, 0, "x"))
	for _, fid := range []uint32{openX, readX, execX} {
		if r := p.done(t, 1, aRead(fid, 2, 5)); string(r.Data) != "23456" {
			t.Errorf("fid %d: %q", fid, r.Data)
		}
	}
	for _, fid := range []uint32{openX, writeX} {
		p.refused(t, 1, api.ErrBig, aWrite(fid, 65536, "x"), aWrite(fid, 65530, "0123456"), aWrite(fid, math.MaxUint64, "0"), aWrite(fid, math.MaxUint64-1, "012"), aWrite(fid, 1<<32, "0"), aWrite(fid, 65537, "0"), aWrite(fid, 65535, "01"))
		p.done(t, 1, aWrite(fid, 65535, "0"))
		for _, offset := range []uint64{0, 65536, 1 << 40, math.MaxUint64} {
			q := aWrite(fid, offset, "")
			p.wantPlan(t, 1, q, api.Msg{}, nil, nil)
			was := p.is(t, x)
			p.done(t, 1, q)
			p.wantNode(t, was)
		}
	}
}

// Only what is open is read and written, whatever else stands in a fid.
func TestDataOfShut(t *testing.T) {
	for mode := range uint8(4) {
		p := stage(t, config())
		for fid, path := range map[uint32]uint64{annX: x, annRoot: 1} {
			f := api.Fid{State: shut, Node: path, User: "ann", Mode: mode}
			p.w.Apply(1, stands(fid, f))
			p.m.on(1).put(fid, f)
			p.refused(t, 1, api.ErrShut, aRead(fid, 0, 100), aWrite(fid, 0, "abc"))
			p.wantFoot(t, 1, aRead(fid, 0, 100), fidAlone(uint64(fid)), nodeTogether(path))
		}
	}
}

// What a read of a file comes to: as far as was asked, as an iounit goes, as the file goes; a piece for each block.
func TestRead(t *testing.T) {
	p := withSession(t, config())
	p.fid(t, annRoot, 1)
	p.done(t, 1, aCreate(1, "x", 0666, 2))
	p.done(t, 1, aWrite(1, 0, string(bytes.Repeat([]byte("abcdefg"), 200)))) // 1400 bytes
	for _, r := range []struct {
		offset uint64
		count  uint32
		pieces []api.Piece
	}{
		{0, 0, nil}, {0, 1, []api.Piece{readFrom(2, 0, 1)}}, {0, 256, []api.Piece{readFrom(2, 0, 256)}}, {0, 257, []api.Piece{readFrom(2, 0, 256), readFrom(2, 256, 1)}},
		{255, 1, []api.Piece{readFrom(2, 255, 1)}}, {255, 2, []api.Piece{readFrom(2, 255, 1), readFrom(2, 256, 1)}}, {256, 512, []api.Piece{readFrom(2, 256, 256), readFrom(2, 512, 256)}},
		{700, 600, []api.Piece{readFrom(2, 700, 68), readFrom(2, 768, 256), readFrom(2, 1024, 256), readFrom(2, 1280, 20)}},
		{1300, 8000, []api.Piece{readFrom(2, 1300, 100)}}, {1399, math.MaxUint32, []api.Piece{readFrom(2, 1399, 1)}}, {1200, 200, []api.Piece{readFrom(2, 1200, 80), readFrom(2, 1280, 120)}},
		{1400, 1, nil}, {1401, 10, nil}, {1 << 32, 10, nil}, {math.MaxUint64, math.MaxUint32, nil},
	} {
		p.wantPlan(t, 1, aRead(1, r.offset, r.count), api.Msg{}, nil, r.pieces)
		p.wantFoot(t, 1, aRead(1, r.offset, r.count), fidAlone(1), nodeTogether(2))
		p.done(t, 1, aRead(1, r.offset, r.count))
	}
}

// A read tells at most an iounit.
func TestReadIounit(t *testing.T) {
	for msize, want := range map[int]int{1: 0, 24: 0, 25: 1, 30: 6, 280: 256, 281: 257, 8192: 3000} {
		p := stage(t, config())
		p.done(t, 1, aWrite(openX, 2990, "0123456789"))
		p.w.Apply(1, agreed(msize))
		p.m.on(1).msize = msize
		for _, count := range []uint32{1 << 31, 65536, uint32(want), uint32(want) + 1} {
			if r := p.done(t, 1, aRead(readX, 0, count)); len(r.Data) != want {
				t.Errorf("msize %d, Count %d: %d bytes", msize, count, len(r.Data))
			}
		}
	}
}

// A read changes nothing.
func TestReadChangesNothing(t *testing.T) {
	p := stage(t, config())
	was, fids := p.w.Nodes(), p.w.Fids(1)
	p.done(t, 1, aRead(readX, 0, 100))
	p.done(t, 1, aRead(readX, 50, 100))
	if !same(p.w.Nodes(), was) || !same(p.w.Fids(1), fids) {
		t.Errorf("%+v; %+v", p.w.Nodes(), p.w.Fids(1))
	}
}

// What a write comes to: a piece for each block, and the mark of who wrote.
func TestWrite(t *testing.T) {
	big := string(bytes.Repeat([]byte("0123456789"), 300))
	for _, w := range []struct {
		offset uint64
		size   int
		pieces []api.Piece
	}{
		{0, 1, []api.Piece{written(x, 0, big[:1])}}, {0, 256, []api.Piece{written(x, 0, big[:256])}}, {0, 257, []api.Piece{written(x, 0, big[:256]), written(x, 256, big[256:257])}},
		{255, 1, []api.Piece{written(x, 255, big[:1])}}, {255, 2, []api.Piece{written(x, 255, big[:1]), written(x, 256, big[1:2])}}, {256, 256, []api.Piece{written(x, 256, big[:256])}},
		{100, 600, []api.Piece{written(x, 100, big[:156]), written(x, 256, big[156:412]), written(x, 512, big[412:600])}},
		{65535, 1, []api.Piece{written(x, 65535, big[:1])}}, {65200, 336, []api.Piece{written(x, 65200, big[:80]), written(x, 65280, big[80:336])}},
	} {
		p := stage(t, config())
		p.done(t, 1, aClunk(bobX))
		q := aWrite(writeX, w.offset, big[:w.size])
		p.wantPlan(t, 1, q, api.Msg{Count: uint32(w.size)}, nil, append(w.pieces, markedBy(x, "ann", 9)))
		p.wantFoot(t, 1, q, fidAlone(writeX), nodeAlone(x))
		was := p.is(t, x)
		p.done(t, 1, q)
		was.Vers, was.Mtime, was.Length = was.Vers+1, 9, max(10, w.offset+uint64(w.size))
		p.wantNode(t, was)
	}
}

// A write is marked by who opened the fid, whoever made the file.
func TestWriteMarks(t *testing.T) {
	c := config()
	c.Perm = 0777
	p := withSession(t, c)
	p.make(t, "f", 0666)
	p.fid(t, bobRoot, 1, "f")
	p.done(t, 1, anOpen(1, 1))
	p.tick(6)
	p.done(t, 1, aWrite(1, 3, "ab"))
	p.wantNode(t, api.Node{Path: 2, Parent: 1, Name: "f", Mode: 0666, Uid: "ann", Gid: "ann", Muid: "bob", Atime: 5, Mtime: 11, Vers: 1, Length: 5, Opens: 1})
}

// To a file for appending is written at its end, wherever it is asked for, and as it is then.
func TestWriteAppending(t *testing.T) {
	p := stage(t, config())
	p.done(t, 1, aWstat(annX, func(s *api.Stat) { s.Mode = appendBit | 0755 }))
	for _, offset := range []uint64{0, 5, 300, 65536, math.MaxUint64} {
		n := p.is(t, x)
		q := aWrite(openX, offset, "abc")
		p.wantPlan(t, 1, q, api.Msg{Count: 3}, nil, []api.Piece{written(x, n.Length, "abc"), markedBy(x, "ann", 9)})
		p.done(t, 1, q)
	}
	if b := p.w.Content(x); string(b) != "0123456789abcabcabcabcabc" {
		t.Errorf("%q", b)
	}
	p.done(t, 1, aWstat(annX, func(s *api.Stat) { s.Length = 65534 }))
	p.refused(t, 1, api.ErrBig, aWrite(openX, 0, "abc"), aWrite(openX, 100000, "abc"))
	p.done(t, 1, aWrite(openX, 100000, ""))
	p.done(t, 1, aWrite(openX, 100000, "ab"))
	p.refused(t, 1, api.ErrBig, aWrite(openX, 0, "a"))
}

// As much as one message can have, over many blocks.
func TestWriteMuch(t *testing.T) {
	c := config()
	c.Msize = 65536
	p := newPair(t, c)
	p.done(t, 1, aVersion(65536))
	p.done(t, 1, anAttach(1, "ann"))
	p.done(t, 1, aCreate(1, "f", 0666, 2))
	data := bytes.Repeat([]byte("0123456789abcdefghi"), 65513/19)
	q := aWrite(1, 7, string(data))
	if r := p.done(t, 1, q); int(r.Count) != len(data) {
		t.Errorf("%d of %d", r.Count, len(data))
	}
	if r := p.done(t, 1, aRead(1, 7, math.MaxUint32)); !bytes.Equal(r.Data, data) || len(p.w.Decide(1, q).Pieces) != 257 {
		t.Errorf("%d bytes, %d pieces", len(r.Data), len(p.w.Decide(1, q).Pieces))
	}
}

// What reading and writing need where they are refused.
func TestDataFoot(t *testing.T) {
	p := stage(t, config())
	for fid, path := range map[uint32]uint64{annX: x, bobX: x, readX: x, writeX: x, execX: x, annRoot: 1, shutGone: g, openGone: g, openRoot: 1} {
		p.wantFoot(t, 1, aWrite(fid, 70000, "abc"), fidAlone(uint64(fid)), nodeAlone(path))
		p.wantFoot(t, 1, aWrite(fid, 0, ""), fidAlone(uint64(fid)), nodeAlone(path))
		if fid != openRoot {
			p.wantFoot(t, 1, aRead(fid, 0, 1000), fidAlone(uint64(fid)), nodeTogether(path))
			p.wantFoot(t, 1, aRead(fid, 77, 0), fidAlone(uint64(fid)), nodeTogether(path))
		}
	}
	for _, q := range []api.Msg{aRead(talkFid, 0, 9), aWrite(talkFid, 0, "abc")} {
		p.wantFoot(t, 1, q, fidAlone(talkFid))
	}
	for _, q := range []api.Msg{aRead(noSuch, 0, 9), aWrite(noSuch, 0, "abc")} {
		p.wantFoot(t, 1, q, fidAlone(noSuch))
	}
}
