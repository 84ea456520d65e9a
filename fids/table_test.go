package fids_test

import (
	"math"
	"math/rand"
	"testing"

	"verger/api"
	"verger/fids"
)

func ann(state api.FidState, node uint64) api.Fid {
	return api.Fid{State: state, Node: node, User: "ann"}
}

// A table has from 1 to 256 fids at most.
func TestNew(t *testing.T) {
	for _, most := range []int{math.MinInt, math.MinInt32, -257, -256, -1, 0, 257, 258, 512, 65536, 1 << 32, 1<<32 + 1, math.MaxInt} {
		if f, e := fids.New(most); f != nil || e != api.ErrArg {
			t.Errorf("New(%d): %v, %d", most, f, e)
		}
	}
	for _, most := range []int{1, 2, 3, 255, 256} {
		newPair(t, most).wantSame(t)
	}
}

// The chapter's examples.
func TestExamples(t *testing.T) {
	p := newPair(t, 2)
	p.wantDo(t, adding(5, ann(shut, 1)), walking(5, 7, 3))
	p.wantIs(t, 7, ann(shut, 3))
	p.wantRefused(t, walking(5, 8, 3), api.ErrFidFull)
	p.wantDo(t, walking(5, 5, 3))
	p.wantIs(t, 5, ann(shut, 3))
	if e := p.wantRoom(t, 5, 7); e != api.ErrFidUsed {
		t.Errorf("Room(5, 7): %d", e)
	}
	if e := p.wantRoom(t, 9, 7); e != api.ErrFid {
		t.Errorf("Room(9, 7): %d", e)
	}

	p.wantDo(t, opening(7, 3, 17, true))
	p.wantIs(t, 7, api.Fid{State: open, Node: 3, User: "ann", Mode: 1, Remove: true})
	p.wantRefused(t, opening(7, 3, 17, true), api.ErrOpen)
	p.wantRefused(t, walking(7, 7, 1), api.ErrOpen)
	p.wantOpens(t, 3, 1)

	p.wantDo(t, telling(7, 12, 90))
	was := api.Fid{State: open, Node: 3, User: "ann", Mode: 1, Remove: true, Last: 12, Told: 90}
	p.wantIs(t, 7, was)
	p.wantRefused(t, telling(5, 12, 90), api.ErrShut)
	if f, e := p.f.Take(7); !same(f, was) || e != api.OK {
		t.Errorf("Take(7): %+v, %d", f, e)
	}
	p.m.take(7)
	p.wantOpens(t, 3, 0)
	p.wantSame(t)
}

// wantIs asks what stands under a number.
func (p pair) wantIs(t *testing.T, num uint32, want api.Fid) {
	t.Helper()
	if f, e := p.f.Get(num); !same(f, want) || e != api.OK {
		failf(t, "Get(%d): %+v, %d; want %+v", num, f, e, want)
	}
	p.wantGet(t, num)
}

// Any number but one may be a fid's, and each is a number of its own.
func TestNumbers(t *testing.T) {
	p := newPair(t, 256)
	nums := []uint32{0, 1, 255, 256, 257, 65535, 65536, 1<<31 - 1, 1 << 31, 1<<31 + 1, noFid - 1}
	for i, num := range nums {
		p.wantRefused(t, setting(num, ann(shut, 1)), api.ErrFid)
		p.wantRefused(t, taking(num), api.ErrFid)
		p.wantRefused(t, opening(num, 1, 0, false), api.ErrFid)
		p.wantRefused(t, telling(num, 1, 1), api.ErrFid)
		p.wantRefused(t, walking(num, num, 1), api.ErrFid)
		p.wantDo(t, adding(num, ann(shut, uint64(i))))
	}
	for i, num := range nums {
		p.wantIs(t, num, ann(shut, uint64(i)))
	}
	for _, num := range nums {
		p.wantDo(t, taking(num))
		p.wantRefused(t, taking(num), api.ErrFid)
	}
}

// No call puts anything under the number that is no fid, whatever else stands in the table.
func TestNoFid(t *testing.T) {
	for _, most := range []int{1, 2, 256} {
		p := newPair(t, most)
		for range 2 {
			for _, state := range []api.FidState{shut, open, auth} {
				p.wantRefused(t, adding(noFid, ann(state, 1)), api.ErrFidBad)
				p.wantRefused(t, setting(noFid, ann(state, 1)), api.ErrFid)
			}
			p.wantRefused(t, taking(noFid), api.ErrFid)
			p.wantRefused(t, walking(noFid, noFid, 1), api.ErrFid)
			p.wantRefused(t, walking(noFid, 6, 1), api.ErrFid)
			p.wantRefused(t, opening(noFid, 1, 0, false), api.ErrFid)
			p.wantRefused(t, telling(noFid, 1, 1), api.ErrFid)
			p.do(t, adding(5, ann(shut, 1)))
			p.wantRefused(t, walking(5, noFid, 1), api.ErrFidBad)
		}
	}
}

// All that a fid has is kept, whatever it is, in each state; of all but the state nothing is looked at.
func TestKept(t *testing.T) {
	rnd := rand.New(rand.NewSource(1))
	p := newPair(t, 3)
	for range 300 {
		for _, state := range []api.FidState{shut, open, auth} {
			f, g := someFid(rnd, state), someFid(rnd, shut, open, auth)
			p.wantDo(t, adding(9, f))
			p.wantIs(t, 9, f)
			p.wantDo(t, setting(9, g))
			p.wantIs(t, 9, g)
			p.wantDo(t, setting(9, f))
			p.wantIs(t, 9, f)
			if got, e := p.f.Take(9); !same(got, f) || e != api.OK {
				failf(t, "Take: %+v, %d; want %+v", got, e, f)
			}
			p.m.take(9)
		}
	}
}

// Each field of a fid is kept by itself.
func TestKeptFields(t *testing.T) {
	for i, f := range []api.Fid{
		{State: shut}, {State: open}, {State: auth}, {State: shut, Node: math.MaxUint64}, {State: shut, User: "bob"}, {State: shut, Mode: 255}, {State: auth, Remove: true},
		{State: shut, Last: math.MaxUint64}, {State: auth, Told: math.MaxUint64}, {State: shut, Talk: api.Talk{User: "eve"}}, {State: open, Talk: api.Talk{Tree: "t"}},
		{State: shut, Talk: api.Talk{Ours: math.MaxUint64}}, {State: auth, Talk: api.Talk{Theirs: math.MaxUint64}}, {State: auth, Talk: api.Talk{Step: 255}},
		{State: auth, Talk: api.Talk{Said: math.MinInt}}, {State: open, Talk: api.Talk{Heard: []byte("heard")}},
	} {
		p := newPair(t, 1)
		p.wantDo(t, adding(1, f))
		p.wantIs(t, 1, f)
		c := pair{p.f.Clone(), p.m.clone()}
		c.wantIs(t, 1, f)
		for num, told := range p.f.All() {
			if num != 1 || !same(told, f) {
				t.Errorf("%d: All: %d, %+v", i, num, told)
			}
		}
		if l := p.f.Clear(); len(l) != 1 || l[0].Num != 1 || !same(l[0].Fid, f) {
			t.Errorf("%d: Clear: %+v", i, l)
		}
	}
}

// Just three numbers are states.
func TestStates(t *testing.T) {
	for state := range 256 {
		f := ann(api.FidState(state), 1)
		p := newPair(t, 2)
		p.wantDo(t, adding(1, ann(shut, 7)))
		if state >= 1 && state <= 3 {
			p.wantDo(t, adding(2, f), setting(1, f))
			continue
		}
		p.wantRefused(t, adding(2, f), api.ErrArg)
		p.wantRefused(t, setting(1, f), api.ErrArg)
	}
}

// Where several errors apply, the first one is told.
func TestAddOrder(t *testing.T) {
	none := ann(0, 1)
	p := newPair(t, 2)
	p.wantRefused(t, adding(noFid, none), api.ErrArg)
	p.wantRefused(t, adding(noFid, ann(shut, 1)), api.ErrFidBad)
	p.wantDo(t, adding(1, ann(shut, 1)))
	p.wantRefused(t, adding(1, none), api.ErrArg)
	p.wantRefused(t, adding(1, ann(auth, 1)), api.ErrFidUsed)
	p.wantDo(t, adding(2, ann(auth, 1)))
	p.wantRefused(t, adding(3, none), api.ErrArg)
	p.wantRefused(t, adding(noFid, none), api.ErrArg)
	p.wantRefused(t, adding(noFid, ann(open, 1)), api.ErrFidBad)
	p.wantRefused(t, adding(1, ann(open, 1)), api.ErrFidUsed)
	p.wantRefused(t, adding(3, ann(open, 1)), api.ErrFidFull)
}

func TestSetOrder(t *testing.T) {
	p := newPair(t, 1)
	p.wantRefused(t, setting(1, ann(4, 1)), api.ErrArg)
	p.wantRefused(t, setting(1, ann(shut, 1)), api.ErrFid)
	p.wantDo(t, adding(1, ann(open, 1)))
	p.wantRefused(t, setting(1, ann(0, 1)), api.ErrArg)
	p.wantRefused(t, setting(2, ann(shut, 1)), api.ErrFid) // and it is full
	p.wantDo(t, setting(1, ann(auth, 1)))                  // a full one, too, and an open one
	p.wantDo(t, setting(1, ann(open, 1)))                  // one of an authentication, too
}

// There are as many as were allowed, and no more, whichever way they come; one that goes makes room for one.
func TestFull(t *testing.T) {
	for _, most := range []int{1, 2, 3, 100, 255, 256} {
		p := newPair(t, most)
		for num := range uint32(most) {
			if num%2 == 0 {
				p.do(t, adding(num, ann(shut, 1)))
			} else {
				p.do(t, walking(num-1, num, 2))
			}
		}
		if p.f.Count() != most {
			failf(t, "Count: %d, want %d", p.f.Count(), most)
		}
		for _, num := range []uint32{uint32(most), 1000, noFid - 1} {
			p.wantRefused(t, adding(num, ann(shut, 1)), api.ErrFidFull)
			p.wantRefused(t, walking(0, num, 1), api.ErrFidFull)
		}
		p.wantDo(t, walking(0, 0, 9), setting(0, ann(open, 4)), taking(uint32(most)/2), adding(1000, ann(auth, 1)))
		p.wantRefused(t, adding(1001, ann(shut, 1)), api.ErrFidFull)
		p.do(t, clearing())
		p.wantDo(t, adding(5, ann(shut, 1)))
	}
}

// What is taken out is there no more, and its number is as good as any.
func TestTake(t *testing.T) {
	p := newPair(t, 2)
	p.wantDo(t, adding(1, ann(open, 5)), adding(2, ann(open, 5)), taking(1))
	p.wantOpens(t, 5, 1)
	for _, c := range []call{taking(1), setting(1, ann(shut, 1)), walking(1, 1, 1), walking(1, 3, 1), opening(1, 1, 0, false), telling(1, 1, 1)} {
		p.wantRefused(t, c, api.ErrFid)
	}
	p.wantDo(t, adding(1, ann(auth, 6)), taking(1), adding(3, ann(shut, 7)), taking(2), walking(3, 1, 8))
	p.wantIs(t, 1, ann(shut, 8))
}
