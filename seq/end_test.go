package seq_test

import (
	"testing"

	"verger/api"
)

// Tclunk: what it comes to, of fids of all sorts.
func TestClunk(t *testing.T) {
	for _, c := range []struct {
		fid   uint32
		now   []api.Piece
		needs []api.Need
	}{
		{annRoot, nil, nil}, {annX, nil, nil}, {bobX, nil, nil}, {talkFid, nil, nil}, {shutGone, nil, nil},
		{openX, []api.Piece{opened(x, -1)}, []api.Need{nodeAlone(x)}},
		{execX, []api.Piece{opened(x, -1)}, []api.Need{nodeAlone(x)}},
		{openRoot, []api.Piece{opened(1, -1)}, []api.Need{nodeAlone(1)}},
		{openGone, nil, []api.Need{nodeAlone(g)}},
	} {
		p := stage(t, config())
		q := aClunk(c.fid)
		p.wantPlan(t, 1, q, api.Msg{}, append([]api.Piece{gone(c.fid)}, c.now...), nil)
		p.wantFoot(t, 1, q, append([]api.Need{fidAlone(uint64(c.fid))}, c.needs...)...)
		p.done(t, 1, q)
		p.refused(t, 1, api.ErrFid, q, aStat(c.fid))
	}
	p := stage(t, config())
	p.refused(t, 1, api.ErrFid, aClunk(noSuch), aClunk(noFid))
	p.wantFoot(t, 1, aClunk(noSuch), fidAlone(noSuch))
}

// A file that was opened so goes with its fid, if it may be removed then; its directory is marked by the fid's user.
func TestClunkRemoves(t *testing.T) {
	p := stage(t, config())
	p.done(t, 1, anOpen(annX, 0x40))
	q := aClunk(annX)
	p.wantPlan(t, 1, q, api.Msg{}, []api.Piece{gone(annX), opened(x, -1), dropped(x)}, []api.Piece{markedBy(1, "ann", 9)})
	p.wantFoot(t, 1, q, fidAlone(annX), nodeAlone(1), nodeAlone(x))
	root := p.is(t, 1)
	p.done(t, 1, q)
	root.Vers, root.Mtime, root.Kids = root.Vers+1, 9, 1
	p.wantNode(t, root)
	p.refused(t, 1, api.ErrGone, aStat(bobX), aRead(readX, 0, 10))
	p.done(t, 1, aClunk(readX))
}

// It stays, where its user may not write the directory any more, or it is a directory with something in it; the fid ends all the same.
func TestClunkLeaves(t *testing.T) {
	p := stage(t, config())
	p.done(t, 1, anOpen(annX, 0x40))
	p.done(t, 1, aWstat(annRoot, func(s *api.Stat) { s.Mode = dirBit | 0555 }))
	q := aClunk(annX)
	p.wantPlan(t, 1, q, api.Msg{}, []api.Piece{gone(annX), opened(x, -1)}, nil)
	p.wantFoot(t, 1, q, fidAlone(annX), nodeAlone(1), nodeAlone(x))
	p.done(t, 1, q)
	p.is(t, x)
	f := api.Fid{State: open, Node: d, User: "ann", Remove: true}
	p.w.Apply(1, stands(noSuch, f))
	p.m.on(1).put(noSuch, f)
	p.w.Apply(1, opened(d, 1))
	p.m.file(d).is.Opens++
	p.done(t, 1, aWstat(annRoot, func(s *api.Stat) { s.Mode = dirBit | 0777 }))
	q = aClunk(noSuch)
	p.wantPlan(t, 1, q, api.Msg{}, []api.Piece{gone(noSuch), opened(d, -1)}, nil)
	p.done(t, 1, q)
}

// By whose rights it goes: those of the user of the fid.
func TestClunkOfWhom(t *testing.T) {
	for user, goes := range map[string]bool{"ann": true, "bob": false} {
		p := stage(t, config())
		f := api.Fid{State: open, Node: x, User: user, Remove: true}
		p.w.Apply(1, stands(openX, f))
		p.m.on(1).put(openX, f)
		p.done(t, 1, aClunk(openX))
		if l := p.w.Nodes(); (len(l) == 3) != goes {
			t.Errorf("%s: %+v", user, l)
		}
	}
}

// Only an open fid takes its file with it, and needs it.
func TestClunkShut(t *testing.T) {
	p := stage(t, config())
	f := api.Fid{State: shut, Node: x, User: "ann", Remove: true}
	p.w.Apply(1, stands(annX, f))
	p.m.on(1).put(annX, f)
	p.wantPlan(t, 1, aClunk(annX), api.Msg{}, []api.Piece{gone(annX)}, nil)
	p.wantFoot(t, 1, aClunk(annX), fidAlone(annX))
	p.done(t, 1, aClunk(annX))
	p.is(t, x)
}

// The root, opened so, would not go.
func TestClunkRoot(t *testing.T) {
	p := stage(t, config())
	f := api.Fid{State: open, Node: 1, User: "ann", Remove: true}
	p.w.Apply(1, stands(openRoot, f))
	p.m.on(1).put(openRoot, f)
	p.wantPlan(t, 1, aClunk(openRoot), api.Msg{}, []api.Piece{gone(openRoot), opened(1, -1)}, nil)
	p.wantFoot(t, 1, aClunk(openRoot), fidAlone(openRoot), nodeAlone(1))
	p.done(t, 1, aClunk(openRoot))
}

// Tremove, refused or not: the fid is no more.
func TestRemove(t *testing.T) {
	for _, r := range []struct {
		fid   uint32
		why   api.Errno
		now   []api.Piece
		later []api.Piece
		needs []api.Need
	}{
		{talkFid, api.ErrAuth, nil, nil, nil},
		{shutGone, api.ErrGone, nil, nil, []api.Need{nodeAlone(g)}},
		{openGone, api.ErrGone, nil, nil, []api.Need{nodeAlone(g)}},
		{annRoot, api.ErrPerm, nil, nil, []api.Need{nodeAlone(1)}},
		{openRoot, api.ErrPerm, []api.Piece{opened(1, -1)}, nil, []api.Need{nodeAlone(1)}},
		{bobX, api.ErrPerm, nil, nil, []api.Need{nodeAlone(1), nodeAlone(x)}},
		{annD, api.ErrNotEmpty, nil, nil, []api.Need{nodeAlone(1), nodeAlone(d)}},
		{annX, api.OK, []api.Piece{dropped(x)}, []api.Piece{markedBy(1, "ann", 9)}, []api.Need{nodeAlone(1), nodeAlone(x)}},
		{openX, api.OK, []api.Piece{opened(x, -1), dropped(x)}, []api.Piece{markedBy(1, "ann", 9)}, []api.Need{nodeAlone(1), nodeAlone(x)}},
	} {
		p := stage(t, config())
		q := aRemove(r.fid)
		now := append([]api.Piece{gone(r.fid)}, r.now...)
		p.wantFoot(t, 1, q, append([]api.Need{fidAlone(uint64(r.fid))}, r.needs...)...)
		if r.why == api.OK {
			p.wantPlan(t, 1, q, api.Msg{}, now, r.later)
			p.done(t, 1, q)
		} else {
			nodes, fids := p.w.Nodes(), p.w.Fids(1)
			p.wantRefusal(t, 1, q, r.why, now...)
			p.do(t, 1, q)
			p.wantSame(t)
			if r.now != nil {
				nodes[0].Opens--
			}
			if !same(p.w.Nodes(), nodes) || len(p.w.Fids(1)) != len(fids)-1 {
				t.Errorf("fid %d: %+v, %+v", r.fid, p.w.Nodes(), p.w.Fids(1))
			}
		}
		p.refused(t, 1, api.ErrFid, aStat(r.fid), q)
	}
	p := stage(t, config())
	p.wantRefusal(t, 1, aRemove(noSuch), api.ErrFid)
	p.wantFoot(t, 1, aRemove(noSuch), fidAlone(noSuch))
	p.refused(t, 1, api.ErrFid, aRemove(noSuch), aRemove(noFid))
}

// Of an empty directory; its parent is marked, and the one above that is not.
func TestRemoveDirectory(t *testing.T) {
	p := stage(t, config())
	p.fid(t, annD, 20, "y")
	root, dir := p.is(t, 1), p.is(t, d)
	p.done(t, 1, aRemove(20))
	dir.Vers, dir.Mtime, dir.Kids = dir.Vers+1, 9, 0
	p.wantNode(t, dir)
	p.wantNode(t, root)
	p.tick(1)
	p.done(t, 1, aRemove(annD))
	root.Vers, root.Mtime, root.Kids = root.Vers+1, 10, 1
	p.wantNode(t, root)
}

// The chapter's example 6.
func TestRemoveExample(t *testing.T) {
	p := stage(t, config())
	p.done(t, 1, aRemove(openX))
	p.refused(t, 1, api.ErrGone, aStat(bobX))
	if r := p.done(t, 1, aClunk(bobX)); !same(r, api.Msg{Kind: api.Rclunk, Tag: 9}) {
		t.Errorf("%+v", r)
	}
}
