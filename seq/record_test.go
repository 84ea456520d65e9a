package seq_test

import (
	"math"
	"strings"
	"testing"

	"verger/api"
	"verger/rules"
)

// Tstat and Twstat: by what they are refused, the first that fails.
func TestRecordRefused(t *testing.T) {
	p := stage(t, config())
	bad := func(fid uint32) api.Msg { return aWstat(fid, func(s *api.Stat) { s.Type, s.Length = 1, 70000 }) }
	p.refused(t, 1, api.ErrFid, aStat(noSuch), bad(noSuch), aStat(noFid))
	p.refused(t, 1, api.ErrAuth, aStat(talkFid), bad(talkFid), aWstat(talkFid, nothing))
	p.refused(t, 1, api.ErrGone, aStat(shutGone), aStat(openGone), bad(shutGone), aWstat(openGone, nothing))
	p.refused(t, 1, api.ErrWstat, bad(annX), bad(openX), bad(annRoot))
	for _, w := range []struct {
		fid  uint32
		why  api.Errno
		turn func(*api.Stat)
	}{
		{annX, api.ErrWstat, func(s *api.Stat) { s.Atime = 1 }},
		{annX, api.ErrWstat, func(s *api.Stat) { s.Qid.Vers = 7 }},
		{annX, api.ErrWstat, func(s *api.Stat) { s.Muid = "bob" }},
		{bobX, api.ErrPerm, func(s *api.Stat) { s.Mode = 0777 }},
		{bobX, api.ErrPerm, func(s *api.Stat) { s.Mtime = 1 }},
		{bobX, api.ErrPerm, func(s *api.Stat) { s.Length = 1 }},
		{bobX, api.ErrPerm, func(s *api.Stat) { s.Name = "d" }},
		{annX, api.ErrExists, func(s *api.Stat) { s.Name = "d" }},
		{annX, api.ErrName, func(s *api.Stat) { s.Name = "d/y" }},
		{annX, api.ErrBig, func(s *api.Stat) { s.Length = 65537 }},
		{annX, api.ErrMode, func(s *api.Stat) { s.Mode = dirBit | 0777 }},
		{annX, api.ErrGroup, func(s *api.Stat) { s.Gid = "joe" }},
		{annX, api.ErrPerm, func(s *api.Stat) { s.Gid = "bob" }},
		{annD, api.ErrIsDir, func(s *api.Stat) { s.Length = 1 }},
		{annD, api.ErrExists, func(s *api.Stat) { s.Name = "x" }},
		{annRoot, api.ErrPerm, func(s *api.Stat) { s.Name = "r" }},
		{annRoot, api.ErrName, func(s *api.Stat) { s.Name = strings.Repeat("r", 256) }},
	} {
		p.refused(t, 1, w.why, aWstat(w.fid, w.turn), aWstat(w.fid, func(s *api.Stat) {
			s.Mtime = 1 // and what might be changed is not, either
			w.turn(s)
		}))
	}
	// A name is taken only where it is in the same directory.
	p.done(t, 1, aWstat(annX, func(s *api.Stat) { s.Name = "y" }))
	p.fid(t, annD, 20, "y")
	p.done(t, 1, aWstat(20, func(s *api.Stat) { s.Name = "x" }))
}

// Tstat: the record, of shut fids and open ones, whoever asks.
func TestStat(t *testing.T) {
	p := stage(t, config())
	for fid, path := range map[uint32]uint64{annX: x, bobX: x, openX: x, writeX: x, annRoot: 1, openRoot: 1, annD: d} {
		n := p.is(t, path)
		q := aStat(fid)
		p.wantPlan(t, 1, q, api.Msg{Stat: rules.Record(n)}, nil, nil)
		p.wantFoot(t, 1, q, fidTogether(uint64(fid)), nodeTogether(path))
		p.done(t, 1, q)
	}
	want := api.Stat{Qid: api.Qid{Vers: 1, Path: x}, Mode: 0755, Atime: 5, Mtime: 5, Length: 10, Name: "x", Uid: "ann", Gid: "ann", Muid: "ann"}
	if r := p.done(t, 1, aStat(bobX)); r.Stat != want {
		t.Errorf("%+v", r.Stat)
	}
	p.wantFoot(t, 1, aStat(shutGone), fidTogether(shutGone), nodeTogether(g))
	p.wantFoot(t, 1, aStat(openGone), fidTogether(openGone), nodeTogether(g))
	p.wantFoot(t, 1, aStat(talkFid), fidTogether(talkFid))
	p.wantFoot(t, 1, aStat(noSuch), fidTogether(noSuch))
}

const (
	aMode  = api.MaskMode
	aGid   = api.MaskGid
	aMtime = api.MaskMtime
	aMark  = api.MaskBump | api.MaskMtime | api.MaskMuid
)

// Twstat: what each change comes to, alone and with others: the pieces, in their order.
func TestWstat(t *testing.T) {
	for _, w := range []struct {
		turn  func(*api.Stat)
		later []api.Piece
	}{
		{nothing, nil},
		{func(s *api.Stat) { s.Name, s.Length, s.Mode, s.Mtime, s.Gid = "x", 10, 0755, 5, "ann" }, nil},
		{func(s *api.Stat) { s.Length = 3 }, []api.Piece{cut(x, 3), turned(x, aMark, api.Node{Mtime: 9, Muid: "ann"})}},
		{func(s *api.Stat) { s.Length = 0 }, []api.Piece{cut(x, 0), turned(x, aMark, api.Node{Mtime: 9, Muid: "ann"})}},
		{func(s *api.Stat) { s.Length = 65536 }, []api.Piece{cut(x, 65536), turned(x, aMark, api.Node{Mtime: 9, Muid: "ann"})}},
		{func(s *api.Stat) { s.Length, s.Mtime = 3, 77 }, []api.Piece{cut(x, 3), turned(x, aMark, api.Node{Mtime: 77, Muid: "ann"})}},
		{func(s *api.Stat) { s.Length, s.Mtime = 3, 5 }, []api.Piece{cut(x, 3), turned(x, aMark, api.Node{Mtime: 9, Muid: "ann"})}},
		{func(s *api.Stat) { s.Length, s.Mtime = 3, 0 }, []api.Piece{cut(x, 3), turned(x, aMark, api.Node{Mtime: 0, Muid: "ann"})}},
		{func(s *api.Stat) { s.Name = "n" }, []api.Piece{called(x, "n"), markedBy(1, "ann", 9)}},
		{func(s *api.Stat) { s.Name, s.Mtime = "n", 8 }, []api.Piece{called(x, "n"), turned(x, aMtime, api.Node{Mtime: 8}), markedBy(1, "ann", 9)}},
		{func(s *api.Stat) { s.Mode = 0400 }, []api.Piece{turned(x, aMode, api.Node{Mode: 0400})}},
		{func(s *api.Stat) { s.Mode = exclBit | 0755 }, []api.Piece{turned(x, aMode, api.Node{Mode: exclBit | 0755})}},
		{func(s *api.Stat) { s.Mode = 0 }, []api.Piece{turned(x, aMode, api.Node{})}},
		{func(s *api.Stat) { s.Gid = "both" }, []api.Piece{turned(x, aGid, api.Node{Gid: "both"})}},
		{func(s *api.Stat) { s.Mtime = 6 }, []api.Piece{turned(x, aMtime, api.Node{Mtime: 6})}},
		{func(s *api.Stat) { s.Mtime = 0 }, []api.Piece{turned(x, aMtime, api.Node{})}},
		{func(s *api.Stat) { s.Mode, s.Gid, s.Mtime = 0700, "both", 6 }, []api.Piece{turned(x, aMode|aGid|aMtime, api.Node{Mode: 0700, Gid: "both", Mtime: 6})}},
		{func(s *api.Stat) { s.Mode, s.Gid, s.Length, s.Name = 0700, "both", 20, "n" },
			[]api.Piece{cut(x, 20), called(x, "n"), turned(x, aMode|aGid|aMark, api.Node{Mode: 0700, Gid: "both", Mtime: 9, Muid: "ann"}), markedBy(1, "ann", 9)}},
		{func(s *api.Stat) { s.Mode, s.Gid, s.Length, s.Name, s.Mtime = 0700, "both", 20, "n", 4 },
			[]api.Piece{cut(x, 20), called(x, "n"), turned(x, aMode|aGid|aMark, api.Node{Mode: 0700, Gid: "both", Mtime: 4, Muid: "ann"}), markedBy(1, "ann", 9)}},
	} {
		for _, fid := range []uint32{annX, readX} {
			c := config()
			c.Users += "both::ann,bob:\n"
			p := stage(t, c)
			q := aWstat(fid, w.turn)
			p.wantPlan(t, 1, q, api.Msg{}, nil, w.later)
			needs := []api.Need{fidTogether(uint64(fid)), nodeAlone(x)}
			if q.Stat.Name == "n" {
				needs = []api.Need{fidTogether(uint64(fid)), nodeAlone(1), nodeAlone(x)}
			}
			p.wantFoot(t, 1, q, needs...)
			p.done(t, 1, q)
			was := p.w.Nodes()
			p.done(t, 1, q) // what is so already is asked for once more
			if q.Stat.Mtime != 5 && !same(p.w.Nodes(), was) {
				t.Errorf("once more: %+v, ahead of it %+v", p.w.Nodes(), was)
			}
		}
	}
}

// Of a directory, and of the root; a name changes the parent, and the root's version is its own.
func TestWstatDirectory(t *testing.T) {
	p := stage(t, config())
	q := aWstat(annD, func(s *api.Stat) { s.Name, s.Mode = "dd", dirBit|0700 })
	p.wantPlan(t, 1, q, api.Msg{}, nil, []api.Piece{called(d, "dd"), turned(d, aMode, api.Node{Mode: dirBit | 0700}), markedBy(1, "ann", 9)})
	p.done(t, 1, q)
	q = aWstat(openRoot, func(s *api.Stat) { s.Mode, s.Mtime, s.Length = dirBit|0777, 3, 0 })
	p.wantPlan(t, 1, q, api.Msg{}, nil, []api.Piece{turned(1, aMode|aMtime, api.Node{Mode: dirBit | 0777, Mtime: 3})})
	p.done(t, 1, q)
	q = aWstat(bobRoot, func(s *api.Stat) { s.Name = "/" })
	p.wantPlan(t, 1, q, api.Msg{}, nil, nil)
	p.wantFoot(t, 1, q, fidTogether(bobRoot), nodeAlone(1))
	p.done(t, 1, q)
}

// Who changes a file marks it, and its directory, as themselves.
func TestWstatMarks(t *testing.T) {
	c := config()
	c.Perm = 0777
	p := withSession(t, c)
	p.make(t, "f", 0666)
	p.tick(4)
	p.fid(t, bobRoot, 1, "f")
	p.done(t, 1, aWstat(1, func(s *api.Stat) { s.Name, s.Length = "g", 7 }))
	p.wantNode(t, api.Node{Path: 2, Parent: 1, Name: "g", Mode: 0666, Uid: "ann", Gid: "ann", Muid: "bob", Atime: 5, Mtime: 9, Vers: 1, Length: 7})
	p.wantNode(t, api.Node{Path: 1, Parent: 1, Name: "/", Mode: dirBit | 0777, Uid: "ann", Gid: "ann", Muid: "bob", Mtime: 9, Vers: 2, Kids: 1})
}

// All or nothing: where one of the fields is refused, none is changed.
func TestWstatAllOrNothing(t *testing.T) {
	p := stage(t, config())
	was := p.w.Nodes()
	p.refused(t, 1, api.ErrPerm, aWstat(annX, func(s *api.Stat) { s.Mode, s.Mtime, s.Length, s.Name, s.Gid = 0700, 1, 2, "n", "bob" }))
	p.refused(t, 1, api.ErrExists, aWstat(annX, func(s *api.Stat) { s.Mode, s.Mtime, s.Length, s.Name = 0700, 1, 2, "d" }))
	if !same(p.w.Nodes(), was) {
		t.Errorf("%+v", p.w.Nodes())
	}
}

// What a change needs where it is refused: the parent only if the name is touched.
func TestWstatFoot(t *testing.T) {
	p := stage(t, config())
	for name, touched := range map[string]bool{"": false, "x": false, "d": true, "n": true, "a/b": true} {
		q := aWstat(bobX, func(s *api.Stat) { s.Name, s.Length = name, math.MaxUint64-1 })
		needs := []api.Need{fidTogether(bobX), nodeAlone(x)}
		if touched {
			needs = []api.Need{fidTogether(bobX), nodeAlone(1), nodeAlone(x)}
		}
		p.wantFoot(t, 1, q, needs...)
		p.wantFoot(t, 1, aWstat(shutGone, func(s *api.Stat) { s.Name = name }), fidTogether(shutGone), nodeAlone(g))
		p.wantFoot(t, 1, aWstat(talkFid, func(s *api.Stat) { s.Name = name }), fidTogether(talkFid))
		p.wantFoot(t, 1, aWstat(noSuch, func(s *api.Stat) { s.Name = name }), fidTogether(noSuch))
		p.wantFoot(t, 1, aWstat(annRoot, func(s *api.Stat) { s.Name = name }), fidTogether(annRoot), nodeAlone(1))
	}
}
