package seq_test

import (
	"testing"

	"verger/api"
)

// Twalk: by what it is refused, the first that fails.
func TestWalkRefused(t *testing.T) {
	full := fullStage(t)
	full.refused(t, 1, api.ErrFid, aWalk(noSuch, noFid, "z"), aWalk(noSuch, annX), aWalk(noSuch, 78), aWalk(noSuch, noSuch), aWalk(noFid, noFid))
	full.refused(t, 1, api.ErrFidBad, aWalk(talkFid, noFid), aWalk(shutGone, noFid), aWalk(openX, noFid), aWalk(annRoot, noFid, "none"))
	full.refused(t, 1, api.ErrFidUsed, aWalk(talkFid, annX), aWalk(shutGone, annX), aWalk(openX, annX), aWalk(annRoot, annX, "none"), aWalk(annRoot, talkFid))
	full.refused(t, 1, api.ErrFidFull, aWalk(talkFid, noSuch), aWalk(shutGone, noSuch), aWalk(openX, noSuch), aWalk(annRoot, noSuch, "none"), aWalk(annRoot, noSuch))
	p := stage(t, config())
	p.refused(t, 1, api.ErrAuth, aWalk(talkFid, noSuch), aWalk(talkFid, talkFid, "x"))
	p.refused(t, 1, api.ErrGone, aWalk(shutGone, noSuch), aWalk(shutGone, shutGone, ".."), aWalk(openGone, noSuch), aWalk(openGone, openGone))
	p.refused(t, 1, api.ErrOpen, aWalk(openX, noSuch), aWalk(openX, openX, ".."), aWalk(openRoot, noSuch, "none"), aWalk(openRoot, openRoot))
	p.refused(t, 1, api.ErrNotDir, aWalk(annX, noSuch, ".."), aWalk(annX, annX, "none"), aWalk(bobX, bobX, "..", "x"))
	p.refused(t, 1, api.ErrNone, aWalk(annRoot, noSuch, "none"), aWalk(annRoot, annRoot, "X"), aWalk(annRoot, noSuch, "."), aWalk(annRoot, noSuch, ""), aWalk(annRoot, noSuch, "d/y"), aWalk(annRoot, noSuch, "y"), aWalk(annRoot, noSuch, "g"))
	full.done(t, 1, aWalk(88, 88, "d", "y")) // where no fid is made, there need be no room
}

// Nobody goes through a directory without the right to; where it was lost behind the first name, the walk ends there.
func TestWalkRights(t *testing.T) {
	p := withSession(t, config())
	p.make(t, "d", dirBit|0755)
	p.fid(t, annRoot, 20, "d")
	p.done(t, 1, aCreate(20, "e", dirBit|0755, 0))
	p.done(t, 1, aClunk(20))
	p.fid(t, annRoot, 20, "d")
	p.fid(t, bobRoot, 21, "d")
	p.done(t, 1, aWstat(20, func(s *api.Stat) { s.Mode = dirBit | 0700 }))
	p.refused(t, 1, api.ErrPerm, aWalk(21, 30, "e"), aWalk(21, 30, ".."), aWalk(21, 21, "none"))
	for _, names := range [][]string{{"d", "e"}, {"d", ".."}, {"d", "none"}} {
		q := aWalk(bobRoot, 30, names...)
		p.wantPlan(t, 1, q, api.Msg{Qids: []api.Qid{{Kind: 128, Vers: 1, Path: 2}}}, nil, nil)
		p.wantFoot(t, 1, q, fidTogether(bobRoot), fidAlone(30), nodeTogether(1), nodeTogether(2))
		p.done(t, 1, q)
		p.refused(t, 1, api.ErrFid, aStat(30))
	}
	p.done(t, 1, aWalk(21, 30)) // by no name one goes through nothing
	p.done(t, 1, aWalk(20, 31, "e", "..", "..", ".."))
	p.wantFid(t, 1, 31, api.Fid{State: shut, Node: 1, User: "ann"})
}

// Where a walk leads, and the fid that it makes, or moves.
func TestWalk(t *testing.T) {
	root, dir, inY, inX := api.Qid{Kind: 128, Vers: 4, Path: 1}, api.Qid{Kind: 128, Vers: 1, Path: d}, api.Qid{Path: y}, api.Qid{Vers: 1, Path: x}
	for _, w := range []struct {
		from  uint32
		names []string
		end   uint64
		qids  []api.Qid
		needs []uint64
	}{
		{annRoot, nil, 1, nil, []uint64{1}},
		{annX, nil, x, nil, []uint64{x}},
		{annRoot, []string{"x"}, x, []api.Qid{inX}, []uint64{1, x}},
		{annRoot, []string{"d", "y"}, y, []api.Qid{dir, inY}, []uint64{1, d, y}},
		{annRoot, []string{".."}, 1, []api.Qid{root}, []uint64{1}},
		{annRoot, []string{"..", "..", "d", "..", "x"}, x, []api.Qid{root, root, dir, root, inX}, []uint64{1, x, d}},
		{annD, []string{"y"}, y, []api.Qid{inY}, []uint64{d, y}},
		{annD, []string{"..", "d", "y"}, y, []api.Qid{root, dir, inY}, []uint64{1, d, y}},
	} {
		for _, to := range []uint32{noSuch, w.from} {
			p := stage(t, config())
			q := aWalk(w.from, to, w.names...)
			user := "ann"
			p.wantPlan(t, 1, q, api.Msg{Qids: w.qids}, []api.Piece{stands(to, api.Fid{State: shut, Node: w.end, User: user})}, nil)
			needs := []api.Need{fidTogether(uint64(w.from)), fidAlone(noSuch)}
			if to == w.from {
				needs = []api.Need{fidAlone(uint64(w.from))}
			}
			for _, path := range w.needs {
				needs = append(needs, nodeTogether(path))
			}
			p.wantFoot(t, 1, q, needs...)
			p.done(t, 1, q)
			p.wantFid(t, 1, to, api.Fid{State: shut, Node: w.end, User: user})
			if to != w.from {
				p.done(t, 1, aStat(w.from))
			}
		}
	}
}

// A walk that ends early tells the qids come to, and makes no fid; one that moves its fid leaves it where it was.
func TestWalkEndsEarly(t *testing.T) {
	for _, w := range []struct {
		names []string
		paths []uint64
		needs []uint64
	}{
		{[]string{"x", ".."}, []uint64{x}, []uint64{1, x}},
		{[]string{"d", "none", "x"}, []uint64{d}, []uint64{1, d}},
		{[]string{"d", "y", "y"}, []uint64{d, y}, []uint64{1, d, y}},
		{[]string{"..", "d", "..", "z"}, []uint64{1, d, 1}, []uint64{1, d}},
	} {
		for _, to := range []uint32{noSuch, bobRoot} {
			p := stage(t, config())
			q := aWalk(bobRoot, to, w.names...)
			var qids []api.Qid
			for _, path := range w.paths {
				n := p.is(t, path)
				qids = append(qids, api.Qid{Kind: uint8(n.Mode >> 24), Vers: n.Vers, Path: path})
			}
			p.wantPlan(t, 1, q, api.Msg{Qids: qids}, nil, nil)
			needs := []api.Need{fidTogether(bobRoot), fidAlone(noSuch)}
			if to == bobRoot {
				needs = []api.Need{fidAlone(bobRoot)}
			}
			for _, path := range w.needs {
				needs = append(needs, nodeTogether(path))
			}
			p.wantFoot(t, 1, q, needs...)
			p.done(t, 1, q)
			p.wantFid(t, 1, bobRoot, api.Fid{State: shut, Node: 1, User: "bob"})
		}
	}
}

// The chapter's example 5.
func TestWalkExample(t *testing.T) {
	p := stage(t, config())
	p.refused(t, 1, api.ErrPerm, anOpen(bobX, 1))
	p.refused(t, 1, api.ErrNotDir, aWalk(bobX, noSuch, "..", "x"))
	if r := p.done(t, 1, aWalk(annRoot, noSuch, "x", "..")); !same(r.Qids, []api.Qid{{Vers: 1, Path: x}}) {
		t.Errorf("%+v", r)
	}
	p.refused(t, 1, api.ErrFid, aStat(noSuch))
}

// As many names as may be.
func TestWalkFar(t *testing.T) {
	c := config()
	p := withSession(t, c)
	names := make([]string, 16)
	for i := range names {
		names[i] = "d"
		p.fid(t, annRoot, 20, names[:i]...)
		p.done(t, 1, aCreate(20, "d", dirBit|0755, 0))
		p.done(t, 1, aClunk(20))
	}
	r := p.done(t, 1, aWalk(annRoot, 20, names...))
	if len(r.Qids) != 16 || r.Qids[15].Path != 17 {
		t.Errorf("%+v", r)
	}
	p.refused(t, 1, api.ErrMsgBody, aWalk(annRoot, 21, append(names, "d")...))
	if l := p.w.Foot(1, aWalk(annRoot, 21, names...)); len(l) != 2+17 {
		t.Errorf("%+v", l)
	}
}

// What a walk needs where it is refused: where by its Newfid, also the nodes to which it would come.
func TestWalkFoot(t *testing.T) {
	p := fullStage(t)
	for _, to := range []uint64{annX, noSuch, noFid} {
		p.wantFoot(t, 1, aWalk(annRoot, uint32(to), "d", "y", "none"), once([]api.Need{fidTogether(annRoot), fidAlone(to), nodeTogether(1), nodeTogether(d), nodeTogether(y)})...)
		p.wantFoot(t, 1, aWalk(annX, uint32(to), ".."), once([]api.Need{fidTogether(annX), fidAlone(to), nodeTogether(x)})...)
		p.wantFoot(t, 1, aWalk(openRoot, uint32(to), "d"), once([]api.Need{fidTogether(openRoot), fidAlone(to), nodeTogether(1)})...)
		p.wantFoot(t, 1, aWalk(shutGone, uint32(to), ".."), once([]api.Need{fidTogether(shutGone), fidAlone(to), nodeTogether(g)})...)
		p.wantFoot(t, 1, aWalk(openGone, uint32(to), ".."), once([]api.Need{fidTogether(openGone), fidAlone(to), nodeTogether(g)})...)
		p.wantFoot(t, 1, aWalk(talkFid, uint32(to), ".."), once([]api.Need{fidTogether(talkFid), fidAlone(to)})...)
		p.wantFoot(t, 1, aWalk(78, uint32(to), ".."), once([]api.Need{fidTogether(78), fidAlone(to)})...)
	}
	p.wantFoot(t, 1, aWalk(annRoot, annRoot, "none"), fidAlone(annRoot), nodeTogether(1))
	p.wantFoot(t, 1, aWalk(78, 78), fidAlone(78))
}
