package fids_test

import (
	"math/rand"
	"slices"
	"testing"

	"verger/api"
)

// The chapter's section "What holds": for calls of all kinds, in whatever order.

// The table does as the model, and tells as it does; each error is told often enough to have been held to it.
func TestLikeTheModel(t *testing.T) {
	rnd := rand.New(rand.NewSource(7))
	told := map[string]map[api.Errno]int{"Add": {}, "Set": {}, "Take": {}, "Walk": {}, "Open": {}, "Told": {}, "Clear": {}, "Room": {}}
	for range 150 {
		p := newPair(t, oneOf(rnd, 1, 2, 3, 8, 1+rnd.Intn(256)))
		for range 400 {
			c := p.m.someCall(rnd)
			told[c.what][p.do(t, c)]++
			p.wantGet(t, p.m.someNum(rnd))
			told["Room"][p.wantRoom(t, p.m.someNum(rnd), p.m.someNum(rnd))]++
			p.wantOpens(t, c.node, p.m.opens(c.node))
		}
		p.wantSame(t)
	}
	for call, errs := range map[string][]api.Errno{
		"Add":  {api.OK, api.ErrArg, api.ErrFidBad, api.ErrFidUsed, api.ErrFidFull},
		"Set":  {api.OK, api.ErrArg, api.ErrFid},
		"Take": {api.OK, api.ErrFid},
		"Room": {api.OK, api.ErrFid, api.ErrFidBad, api.ErrFidUsed, api.ErrFidFull},
		"Walk": {api.OK, api.ErrFid, api.ErrFidBad, api.ErrFidUsed, api.ErrFidFull, api.ErrOpen, api.ErrAuth},
		"Open": {api.OK, api.ErrFid, api.ErrOpen, api.ErrAuth},
		"Told": {api.OK, api.ErrFid, api.ErrShut},
	} {
		for _, e := range errs {
			if told[call][e] < 100 {
				t.Errorf("%s told error %d %d times", call, e, told[call][e])
			}
		}
	}
}

// eachCall are all calls with a few numbers and fids.
func eachCall() []call {
	nums := []uint32{0, 7, noFid - 1, noFid}
	l := []call{clearing()}
	for _, num := range nums {
		for state := range api.FidState(4) {
			f := api.Fid{State: state, Node: 7, User: "eve", Talk: api.Talk{Heard: []byte{byte(state)}}}
			l = append(l, adding(num, f), setting(num, f))
		}
		for _, newnum := range nums {
			l = append(l, walking(num, newnum, 1))
		}
		l = append(l, taking(num), opening(num, 1, 5, true), opening(num, 7, 0x42, false), telling(num, 7, 9))
	}
	return l
}

// A small table, in each state in which calls can bring it: there each call answers as the model, and does the same.
func TestEachState(t *testing.T) {
	for _, most := range []int{1, 2} {
		ways, seen := [][]call{nil}, map[string]bool{}
		for len(ways) > 0 {
			way := ways[0]
			ways = ways[1:]
			for _, c := range eachCall() {
				p := newPair(t, most)
				for _, ahead := range way {
					p.do(t, ahead)
				}
				p.do(t, c)
				p.wantSame(t)
				if text := p.m.text(); !seen[text] {
					seen[text] = true
					ways = append(ways, append(slices.Clone(way), c))
				}
			}
		}
		if len(seen) < 10*most*most {
			t.Errorf("of at most %d: %d states", most, len(seen))
		}
	}
}

// without is a list without what stands under one number, or another one.
func without(l []api.FidAt, nums ...uint32) []api.FidAt {
	return slices.DeleteFunc(l, func(f api.FidAt) bool { return slices.Contains(nums, f.Num) })
}

// Whatever is done to one number, what stands under the others is the same; and what is refused changes nothing at all. (Of this the table alone is asked.)
func TestOthersStay(t *testing.T) {
	rnd := rand.New(rand.NewSource(8))
	for range 100 {
		p := newPair(t, 1+rnd.Intn(20))
		for range 200 {
			c := p.m.someCall(rnd)
			was, count := collected(p.f), p.f.Count()
			e := p.do(t, c)
			is := collected(p.f)
			if e != api.OK && (!sameAll(is, was) || p.f.Count() != count) {
				failf(t, "%+v was refused: %+v, ahead of it %+v", c, is, was)
			}
			changed := c.num
			if c.what == "Walk" {
				changed = c.newnum
			}
			if c.what != "Clear" && !sameAll(without(is, changed), without(was, changed)) {
				failf(t, "%+v: %+v, ahead of it %+v", c, is, was)
			}
		}
	}
}

// There are never more than there may be, and never the number that is no fid; what Get, All and Count tell is of one piece, and so is Opens.
func TestNeverMore(t *testing.T) {
	rnd := rand.New(rand.NewSource(9))
	for range 100 {
		most := oneOf(rnd, 1, 2, 5, 20)
		p := newPair(t, most)
		for range 200 {
			p.do(t, p.m.someCall(rnd))
			n, opens := 0, map[uint64]int{}
			for num, f := range p.f.All() {
				n++
				if f.State == open {
					opens[f.Node]++
				}
				if got, e := p.f.Get(num); e != api.OK || !same(got, f) || num == noFid {
					failf(t, "Get(%d): %+v, %d; All: %+v", num, got, e, f)
				}
			}
			if p.f.Count() != n || n > most {
				failf(t, "Count: %d; All tells %d; there may be %d", p.f.Count(), n, most)
			}
			for node := range uint64(10) {
				if p.f.Opens(node) != opens[node] {
					failf(t, "Opens(%d): %d, All tells %d", node, p.f.Opens(node), opens[node])
				}
			}
			if _, e := p.f.Get(noFid); e != api.ErrFid {
				failf(t, "Get(%d): %d", uint32(noFid), e)
			}
		}
	}
}

// What Clear gives, added to another table in whatever order, makes it tell the same.
func TestClearedAndAdded(t *testing.T) {
	rnd := rand.New(rand.NewSource(10))
	for range 200 {
		p := grown(t, rnd, 1+rnd.Intn(30), 100)
		other := pair{newTable(t, p.m.most), p.m.clone()}
		l := p.f.Clear()
		rnd.Shuffle(len(l), func(i, j int) { l[i], l[j] = l[j], l[i] })
		for _, f := range l {
			if e := other.f.Add(f.Num, f.Fid); e != api.OK {
				failf(t, "Add(%d, %+v): %d", f.Num, f.Fid, e)
			}
		}
		other.wantSame(t)
		for range 50 {
			other.do(t, other.m.someCall(rnd))
		}
		other.wantSame(t)
		p.m.clear()
		p.wantSame(t)
	}
}
