package seq_test

import (
	"math"
	"strings"
	"testing"

	"verger/api"
)

// Topen: by what it is refused, the first that fails.
func TestOpenRefused(t *testing.T) {
	p := stage(t, config())
	p.refused(t, 1, api.ErrFid, anOpen(noSuch, 4), anOpen(noFid, 0))
	p.refused(t, 1, api.ErrAuth, anOpen(talkFid, 4), anOpen(talkFid, 0))
	p.refused(t, 1, api.ErrGone, anOpen(shutGone, 4), anOpen(openGone, 0))
	p.refused(t, 1, api.ErrOpen, anOpen(openX, 4), anOpen(openX, 2), anOpen(openRoot, 1), anOpen(readX, 0))
	p.refused(t, 1, api.ErrMode, anOpen(annRoot, 4), anOpen(bobX, 0x80), anOpen(bobX, 0x21), anOpen(annX, 8))
	p.refused(t, 1, api.ErrIsDir, anOpen(bobRoot, 1), anOpen(annRoot, 0x40), anOpen(annRoot, 0x10), anOpen(annRoot, 3))
	p.refused(t, 1, api.ErrPerm, anOpen(bobX, 1), anOpen(bobX, 2), anOpen(bobX, 0x10), anOpen(bobX, 0x40))
	p.done(t, 1, aWstat(annX, func(s *api.Stat) { s.Mode = exclBit | 0755 }))
	p.refused(t, 1, api.ErrPerm, anOpen(bobX, 1))
	p.refused(t, 1, api.ErrExcl, anOpen(bobX, 0), anOpen(annX, 3))
	for _, fid := range []uint32{openX, writeX, readX, execX} {
		p.refused(t, 1, api.ErrExcl, anOpen(annX, 1))
		p.done(t, 1, aClunk(fid))
	}
	p.done(t, 1, anOpen(bobX, 0))
	p.refused(t, 1, api.ErrExcl, anOpen(annX, 1))
}

// Topen: what it comes to, of each mode that may be.
func TestOpen(t *testing.T) {
	for mode := range uint8(128) {
		p := stage(t, config())
		q := anOpen(annX, mode)
		if mode&^0x53 != 0 {
			p.refused(t, 1, api.ErrMode, q)
			continue
		}
		vers := uint32(1)
		later := []api.Piece{turned(x, api.MaskAtime, api.Node{Atime: 9})}
		if mode&0x10 > 0 {
			vers = 2
			later = []api.Piece{cut(x, 0), turned(x, api.MaskAtime|api.MaskBump|api.MaskMtime|api.MaskMuid, api.Node{Atime: 9, Mtime: 9, Muid: "ann"})}
		}
		f := api.Fid{State: open, Node: x, User: "ann", Mode: mode & 3, Remove: mode&0x40 > 0}
		p.wantPlan(t, 1, q, api.Msg{Qid: api.Qid{Vers: vers, Path: x}, Iounit: 8168}, []api.Piece{opened(x, 1), stands(annX, f)}, later)
		needs := []api.Need{fidAlone(annX), nodeAlone(x)}
		if mode&0x40 > 0 {
			needs = []api.Need{fidAlone(annX), nodeTogether(1), nodeAlone(x)}
		}
		p.wantFoot(t, 1, q, needs...)
		was := p.is(t, x)
		p.done(t, 1, q)
		p.wantFid(t, 1, annX, f)
		want := was
		want.Opens, want.Atime = was.Opens+1, 9
		if mode&0x10 > 0 {
			want.Mtime, want.Vers, want.Length = 9, 2, 0
		}
		p.wantNode(t, want)
	}
}

// What a truncation does is marked by who opens the file, also of one that is empty.
func TestOpenMarks(t *testing.T) {
	c := config()
	c.Perm = 0777
	p := withSession(t, c)
	p.make(t, "f", 0666)
	p.tick(5)
	p.fid(t, bobRoot, 1, "f")
	p.done(t, 1, anOpen(1, 0x11))
	p.wantNode(t, api.Node{Path: 2, Parent: 1, Name: "f", Mode: 0666, Uid: "ann", Gid: "ann", Muid: "bob", Atime: 10, Mtime: 10, Vers: 1, Opens: 1})
}

// A directory is opened to be read; nothing of it is cut.
func TestOpenDirectory(t *testing.T) {
	p := stage(t, config())
	for fid, user := range map[uint32]string{annRoot: "ann", bobRoot: "bob"} {
		n := p.is(t, 1)
		q := anOpen(fid, 0)
		p.wantPlan(t, 1, q, api.Msg{Qid: api.Qid{Kind: 128, Vers: n.Vers, Path: 1}, Iounit: 8168}, []api.Piece{opened(1, 1), stands(fid, api.Fid{State: open, Node: 1, User: user})}, []api.Piece{turned(1, api.MaskAtime, api.Node{Atime: 9})})
		p.wantFoot(t, 1, q, fidAlone(uint64(fid)), nodeAlone(1))
		p.done(t, 1, q)
	}
}

// A file for appending is not cut by opening.
func TestOpenAppending(t *testing.T) {
	p := stage(t, config())
	p.done(t, 1, aWstat(annX, func(s *api.Stat) { s.Mode = appendBit | 0755 }))
	q := anOpen(annX, 0x12)
	p.wantPlan(t, 1, q, api.Msg{Qid: api.Qid{Kind: 0x40, Vers: 1, Path: x}, Iounit: 8168}, []api.Piece{opened(x, 1), stands(annX, api.Fid{State: open, Node: x, User: "ann", Mode: 2})}, []api.Piece{turned(x, api.MaskAtime, api.Node{Atime: 9})})
	p.done(t, 1, q)
	if b := p.w.Content(x); string(b) != "0123456789" {
		t.Errorf("%q", b)
	}
}

// What an opening needs where it is refused; of the root, whose parent it is itself.
func TestOpenFoot(t *testing.T) {
	p := stage(t, config())
	for mode := range 256 {
		parents := []api.Need(nil)
		if mode&0x40 > 0 {
			parents = []api.Need{nodeTogether(1)}
		}
		for fid, path := range map[uint32]uint64{annX: x, openX: x, bobX: x} {
			p.wantFoot(t, 1, anOpen(fid, uint8(mode)), append(append([]api.Need{fidAlone(uint64(fid))}, parents...), nodeAlone(path))...)
		}
		for fid, path := range map[uint32]uint64{annRoot: 1, openRoot: 1, shutGone: g, openGone: g} {
			p.wantFoot(t, 1, anOpen(fid, uint8(mode)), fidAlone(uint64(fid)), nodeAlone(path))
		}
		p.wantFoot(t, 1, anOpen(talkFid, uint8(mode)), fidAlone(talkFid))
		p.wantFoot(t, 1, anOpen(noSuch, uint8(mode)), fidAlone(noSuch))
	}
}

// The iounit that is told is the session's msize less 24, and 0 where that is less.
func TestIounit(t *testing.T) {
	for msize, want := range map[int]uint32{1: 0, 23: 0, 24: 0, 25: 1, 512: 488, 8192: 8168, 65536: 65512} {
		p := stage(t, config())
		p.w.Apply(1, agreed(msize))
		p.m.on(1).msize = msize
		if r := p.done(t, 1, anOpen(annX, 0)); r.Iounit != want {
			t.Errorf("msize %d: %d", msize, r.Iounit)
		}
		if r := p.done(t, 1, aCreate(annD, "n", 0666, 0)); r.Iounit != want {
			t.Errorf("msize %d: %d", msize, r.Iounit)
		}
	}
}

// The chapter's example 2.
func TestCreateExample(t *testing.T) {
	p := withSession(t, config())
	p.fid(t, annRoot, 1)
	q := aCreate(1, "x", 0666, 2)
	p.wantFoot(t, 1, q, fidAlone(1), nodeAlone(1))
	p.wantPlan(t, 1, q, api.Msg{Qid: api.Qid{Path: 2}, Iounit: 8168},
		[]api.Piece{made(1, api.Node{Name: "x", Mode: 0644, Uid: "ann", Gid: "ann", Muid: "ann", Atime: 5, Mtime: 5}), opened(2, 1), stands(1, api.Fid{State: open, Node: 2, User: "ann", Mode: 2})},
		[]api.Piece{markedBy(1, "ann", 5)})
	p.done(t, 1, q)
	if n := p.is(t, 1); n.Vers != 1 || n.Mtime != 5 || n.Kids != 1 {
		t.Errorf("the root: %+v", n)
	}
}

// Tcreate: by what it is refused, the first that fails.
func TestCreateRefused(t *testing.T) {
	p := stage(t, config())
	p.refused(t, 1, api.ErrFid, aCreate(noSuch, "", 1<<20, 4), aCreate(noSuch, "n", 0666, 0))
	p.refused(t, 1, api.ErrAuth, aCreate(talkFid, "", 1<<20, 4))
	p.refused(t, 1, api.ErrGone, aCreate(shutGone, "", 1<<20, 4), aCreate(openGone, "n", 0, 0))
	p.refused(t, 1, api.ErrOpen, aCreate(openX, "", 1<<20, 4), aCreate(openRoot, "n", 0, 0))
	p.refused(t, 1, api.ErrNotDir, aCreate(annX, "", 1<<20, 4), aCreate(bobX, "n", 0666, 0))
	p.refused(t, 1, api.ErrName, aCreate(bobRoot, "", 1<<20, 4), aCreate(bobRoot, ".", 0, 0), aCreate(bobRoot, "..", 0, 0), aCreate(bobRoot, "a/b", 0, 0), aCreate(bobRoot, strings.Repeat("n", 256), 0, 0))
	p.refused(t, 1, api.ErrMode, aCreate(bobRoot, "x", 1<<20, 0), aCreate(bobRoot, "x", 0, 4), aCreate(bobRoot, "x", dirBit|appendBit, 0), aCreate(bobRoot, "x", dirBit|0777, 0x80))
	p.refused(t, 1, api.ErrIsDir, aCreate(bobRoot, "x", dirBit|0777, 1), aCreate(annRoot, "n", dirBit|0777, 0x40))
	p.refused(t, 1, api.ErrPerm, aCreate(bobRoot, "x", 0666, 0), aCreate(bobRoot, "n", 0666, 0))
	p.refused(t, 1, api.ErrExists, aCreate(annRoot, "x", 0666, 0), aCreate(annRoot, "d", 0666, 0), aCreate(annD, "y", dirBit, 0))
	full := fullStage(t)
	full.refused(t, 1, api.ErrExists, aCreate(annRoot, "x", 0666, 0))
	full.refused(t, 1, api.ErrNodeFull, aCreate(annRoot, "y", 0666, 0), aCreate(annD, "x", 0666, 0))
	full.refused(t, 1, api.ErrPerm, aCreate(bobRoot, "y", 0666, 0))
	full.done(t, 1, aRemove(annX))
	full.done(t, 1, aCreate(annRoot, "x", 0666, 0))
}

// Tcreate: what it comes to, for files and directories.
func TestCreate(t *testing.T) {
	for _, c := range []struct {
		perm, made uint32
		mode       uint8
	}{
		{0777, 0755, 0}, {0666, 0644, 1}, {0, 0, 2}, {0111, 0111, 3}, {0600, 0600, 0x12}, {0666, 0644, 0x40}, {0666, 0644, 0x53},
		{appendBit | 0622, appendBit | 0600, 0x11}, {exclBit | 0777, exclBit | 0755, 2}, {tmpBit | 0777, tmpBit | 0755, 0}, {dirBit | 0777, dirBit | 0755, 0}, {dirBit | tmpBit | 0333, dirBit | tmpBit | 0311, 0},
	} {
		p := stage(t, config())
		q := aCreate(annD, "new", c.perm, c.mode)
		kind := uint8(c.made >> 24)
		f := api.Fid{State: open, Node: 6, User: "ann", Mode: c.mode & 3, Remove: c.mode&0x40 > 0}
		p.wantPlan(t, 1, q, api.Msg{Qid: api.Qid{Kind: kind, Path: 6}, Iounit: 8168},
			[]api.Piece{made(d, api.Node{Name: "new", Mode: c.made, Uid: "ann", Gid: "ann", Muid: "ann", Atime: 9, Mtime: 9}), opened(6, 1), stands(annD, f)},
			[]api.Piece{markedBy(d, "ann", 9)})
		p.wantFoot(t, 1, q, fidAlone(annD), nodeAlone(d))
		dir := p.is(t, d)
		p.done(t, 1, q)
		p.wantFid(t, 1, annD, f)
		p.wantNode(t, api.Node{Path: 6, Parent: d, Name: "new", Mode: c.made, Uid: "ann", Gid: "ann", Muid: "ann", Atime: 9, Mtime: 9, Opens: 1})
		dir.Vers, dir.Mtime, dir.Kids = dir.Vers+1, 9, 2
		p.wantNode(t, dir)
	}
}

// Who makes a file in another one's directory owns it; its group is the directory's, and the directory is marked by who made it.
func TestCreateElsewhere(t *testing.T) {
	c := config()
	c.Perm, c.Group = 0777, "eve"
	p := withSession(t, c)
	p.done(t, 1, aCreate(bobRoot, "n", 0640, 0))
	p.wantNode(t, api.Node{Path: 2, Parent: 1, Name: "n", Mode: 0640, Uid: "bob", Gid: "eve", Muid: "bob", Atime: 5, Mtime: 5, Opens: 1})
	p.wantNode(t, api.Node{Path: 1, Parent: 1, Name: "/", Mode: dirBit | 0777, Uid: "ann", Gid: "eve", Muid: "bob", Mtime: 5, Vers: 1, Kids: 1})
}

// A path that was given is never given again.
func TestCreatePaths(t *testing.T) {
	p := withSession(t, config())
	for path := uint64(2); path < 10; path++ {
		p.fid(t, annRoot, 1)
		if r := p.done(t, 1, aCreate(1, "x", 0666, 0)); r.Qid.Path != path {
			t.Errorf("%+v, want %d", r, path)
		}
		p.done(t, 1, aRemove(1))
	}
}

// What making needs is the same whatever is made, and whether it is refused.
func TestCreateFoot(t *testing.T) {
	p := stage(t, config())
	for fid, path := range map[uint32]uint64{annRoot: 1, bobRoot: 1, annX: x, annD: d, openX: x, openRoot: 1, shutGone: g, openGone: g} {
		for _, q := range []api.Msg{aCreate(fid, "n", 0666, 0), aCreate(fid, "x", 0666, 0x40), aCreate(fid, "", math.MaxUint32, 255)} {
			p.wantFoot(t, 1, q, fidAlone(uint64(fid)), nodeAlone(path))
		}
	}
	p.wantFoot(t, 1, aCreate(talkFid, "n", 0666, 0), fidAlone(talkFid))
	p.wantFoot(t, 1, aCreate(noSuch, "n", 0666, 0), fidAlone(noSuch))
}
