package fids_test

import (
	"math"
	"math/rand"
	"testing"

	"verger/api"
)

// A walk makes a fid of nothing but the node and the first one's user; the first one stays as it is.
func TestWalk(t *testing.T) {
	rnd := rand.New(rand.NewSource(2))
	for range 300 {
		f, node := someFid(rnd, shut), number(rnd)
		p := newPair(t, 2)
		p.wantDo(t, adding(1, f), walking(1, 2, node))
		p.wantIs(t, 2, api.Fid{State: shut, Node: node, User: f.User})
		p.wantIs(t, 1, f)
		p.wantDo(t, walking(1, 1, node+1))
		p.wantIs(t, 1, api.Fid{State: shut, Node: node + 1, User: f.User})
		p.wantIs(t, 2, api.Fid{State: shut, Node: node, User: f.User})
		p.wantDo(t, taking(1), walking(2, 3, 0))
		p.wantIs(t, 3, api.Fid{State: shut, User: f.User})
	}
}

// Why a walk is refused, in the order of the reasons: those of Room ahead of the fid's state.
func TestWalkOrder(t *testing.T) {
	for state, want := range map[api.FidState]api.Errno{open: api.ErrOpen, auth: api.ErrAuth} {
		p := newPair(t, 3)
		p.wantDo(t, adding(1, ann(state, 1)), adding(2, ann(shut, 1)))
		p.wantRefused(t, walking(9, noFid, 5), api.ErrFid)
		p.wantRefused(t, walking(9, 2, 5), api.ErrFid)
		p.wantRefused(t, walking(9, 9, 5), api.ErrFid)
		p.wantRefused(t, walking(9, 8, 5), api.ErrFid)
		p.wantRefused(t, walking(1, noFid, 5), api.ErrFidBad)
		p.wantRefused(t, walking(1, 2, 5), api.ErrFidUsed)
		p.wantRefused(t, walking(2, 1, 5), api.ErrFidUsed)
		p.wantRefused(t, walking(1, 1, 5), want)
		p.wantRefused(t, walking(1, 3, 5), want)
		p.wantDo(t, walking(2, 3, 5))
		p.wantRefused(t, walking(9, noFid, 5), api.ErrFid) // the table is full now
		p.wantRefused(t, walking(9, 8, 5), api.ErrFid)
		p.wantRefused(t, walking(1, noFid, 5), api.ErrFidBad)
		p.wantRefused(t, walking(1, 2, 5), api.ErrFidUsed)
		p.wantRefused(t, walking(1, 4, 5), api.ErrFidFull)
		p.wantRefused(t, walking(2, 4, 5), api.ErrFidFull)
		p.wantRefused(t, walking(1, 1, 5), want)
		p.wantDo(t, walking(2, 2, 5))
	}
}

// Room looks at numbers alone, and at how many there are: not at what stands there.
func TestRoom(t *testing.T) {
	for _, state := range []api.FidState{shut, open, auth} {
		p := newPair(t, 2)
		want := func(num, newnum uint32, e api.Errno) {
			t.Helper()
			if got := p.wantRoom(t, num, newnum); got != e {
				t.Errorf("Room(%d, %d): %d, want %d", num, newnum, got, e)
			}
		}
		want(1, 1, api.ErrFid)
		want(1, 2, api.ErrFid)
		want(noFid, noFid, api.ErrFid)
		want(1, noFid, api.ErrFid)
		p.wantDo(t, adding(1, ann(state, 1)))
		want(1, 1, api.OK)
		want(1, 2, api.OK)
		want(1, 0, api.OK)
		want(1, noFid-1, api.OK)
		want(1, noFid, api.ErrFidBad)
		want(2, 1, api.ErrFid)
		want(2, 2, api.ErrFid)
		want(noFid, 1, api.ErrFid)
		p.wantDo(t, adding(2, ann(state, 1)))
		want(1, 1, api.OK)
		want(1, 2, api.ErrFidUsed)
		want(2, 1, api.ErrFidUsed)
		want(1, noFid, api.ErrFidBad)
		want(1, 3, api.ErrFidFull)
		want(3, 3, api.ErrFid)
		want(3, 1, api.ErrFid)
		p.wantDo(t, taking(2))
		want(1, 2, api.OK)
		want(2, 1, api.ErrFid)
		p.wantSame(t)
	}
}

// Opened in each mode: of the mode there stay its two lowest bits, of the fid its user.
func TestOpen(t *testing.T) {
	rnd := rand.New(rand.NewSource(3))
	for mode := range 256 {
		for _, remove := range []bool{false, true} {
			f, node := someFid(rnd, shut), number(rnd)
			p := newPair(t, 1)
			p.wantDo(t, adding(4, f), opening(4, node, uint8(mode), remove))
			p.wantIs(t, 4, api.Fid{State: open, Node: node, User: f.User, Mode: uint8(mode & 3), Remove: remove})
			p.wantOpens(t, node, 1)
			p.wantRefused(t, opening(4, node+1, 0, !remove), api.ErrOpen)
		}
	}
}

func TestOpenRefused(t *testing.T) {
	p := newPair(t, 3)
	p.wantDo(t, adding(1, ann(open, 1)), adding(2, ann(auth, 2)), adding(3, ann(shut, 3)))
	p.wantRefused(t, opening(4, 5, 1, true), api.ErrFid)
	p.wantRefused(t, opening(noFid, 5, 1, true), api.ErrFid)
	p.wantRefused(t, opening(1, 5, 1, true), api.ErrOpen)
	p.wantRefused(t, opening(1, 1, 0, false), api.ErrOpen)
	p.wantRefused(t, opening(2, 5, 1, true), api.ErrAuth)
	p.wantDo(t, opening(3, 5, 1, true))
	p.wantRefused(t, opening(3, 5, 1, true), api.ErrOpen)
	p.wantDo(t, setting(3, ann(shut, 3)), opening(3, 5, 1, true)) // shut again by those above
}

// What was told is noted of an open fid, and of it nothing else is another one.
func TestTold(t *testing.T) {
	rnd := rand.New(rand.NewSource(4))
	p := newPair(t, 3)
	for range 300 {
		f := someFid(rnd, open)
		p.wantDo(t, adding(1, f))
		for range 3 {
			f.Last, f.Told = oneOf(rnd, 0, number(rnd), math.MaxUint64), oneOf(rnd, 0, number(rnd), math.MaxUint64)
			p.wantDo(t, telling(1, f.Last, f.Told))
			p.wantIs(t, 1, f)
		}
		p.wantDo(t, taking(1))
	}
	p.wantDo(t, adding(2, someFid(rnd, shut)), adding(3, someFid(rnd, auth)))
	p.wantRefused(t, telling(1, 1, 2), api.ErrFid)
	p.wantRefused(t, telling(noFid, 1, 2), api.ErrFid)
	p.wantRefused(t, telling(2, 1, 2), api.ErrShut)
	p.wantRefused(t, telling(3, 1, 2), api.ErrShut)
	p.wantDo(t, opening(2, 1, 0, false), telling(2, 1, 2), setting(3, ann(open, 1)), telling(3, 1, 2))
}

// Opens counts the fids that are open at a node, in whatever mode; no shut one, and none of an authentication.
func TestOpens(t *testing.T) {
	p := newPair(t, 10)
	p.wantDo(t, adding(1, ann(shut, 5)), adding(2, ann(open, 5)), adding(3, ann(auth, 5)), adding(4, ann(open, 6)), adding(5, ann(shut, 7)), adding(6, ann(open, 0)), adding(7, ann(open, math.MaxUint64)))
	for _, c := range []struct {
		node uint64
		want int
	}{{5, 1}, {6, 1}, {7, 0}, {0, 1}, {1, 0}, {math.MaxUint64, 1}, {math.MaxUint64 - 1, 0}, {1<<32 + 5, 0}} {
		p.wantOpens(t, c.node, c.want)
	}
	p.wantDo(t, opening(1, 5, 3, false))
	p.wantOpens(t, 5, 2)
	p.wantDo(t, opening(5, 5, 0, true))
	p.wantOpens(t, 5, 3)
	p.wantOpens(t, 7, 0)
	p.wantDo(t, setting(2, ann(shut, 5)))
	p.wantOpens(t, 5, 2)
	p.wantDo(t, taking(1))
	p.wantOpens(t, 5, 1)
	p.do(t, clearing())
	p.wantOpens(t, 5, 0)
	p.wantOpens(t, 0, 0)
}
