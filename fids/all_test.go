package fids_test

import (
	"math/rand"
	"slices"
	"testing"

	"verger/api"
)

// grown is a table to which all sorts of things were done.
func grown(t *testing.T, rnd *rand.Rand, most, calls int) pair {
	t.Helper()
	p := newPair(t, most)
	for range calls {
		p.do(t, p.m.someCall(rnd))
	}
	return p
}

// three is a table of an open fid 2, a shut 9 and an authentication's 5, put in so.
func three(t *testing.T) pair {
	t.Helper()
	p := newPair(t, 4)
	p.wantDo(t, adding(9, ann(shut, 1)), adding(2, ann(open, 3)), adding(5, api.Fid{State: auth, User: "eve", Talk: api.Talk{Heard: []byte("heard")}}))
	return p
}

func numsOf(l []api.FidAt) []uint32 {
	var nums []uint32
	for _, f := range l {
		nums = append(nums, f.Num)
	}
	return nums
}

// All is by rising numbers, in whatever order they came, how great they are, and how many there are.
func TestAllRises(t *testing.T) {
	rnd := rand.New(rand.NewSource(5))
	for most := 1; most <= 256; most += 1 + rnd.Intn(20) {
		p := newPair(t, most)
		for p.f.Count() < most {
			p.do(t, adding(uint32(number(rnd)), goodFid(rnd)))
		}
		p.wantSame(t)
		if l := numsOf(collected(p.f)); len(l) != most || !slices.IsSorted(l) {
			failf(t, "All: %v", l)
		}
	}
	p := newPair(t, 8)
	for _, num := range []uint32{1 << 31, 10, 9, noFid - 1, 256, 0, 1<<31 - 1, 255} {
		p.do(t, adding(num, ann(shut, 1)))
	}
	want := []uint32{0, 9, 10, 255, 256, 1<<31 - 1, 1 << 31, noFid - 1}
	if l := numsOf(collected(p.f)); !slices.Equal(l, want) {
		t.Errorf("All: %v, want %v", l, want)
	}
	if l := numsOf(p.f.Clear()); !slices.Equal(l, want) {
		t.Errorf("Clear: %v, want %v", l, want)
	}
}

// All can be gone through again, also within itself, and stops when the caller does.
func TestAllAgain(t *testing.T) {
	p := three(t)
	all := p.f.All()
	for range 3 {
		var l []uint32
		for num := range all {
			l = append(l, num)
			for other := range all {
				l = append(l, other)
				if other == 5 {
					break
				}
			}
			if num == 5 {
				break
			}
		}
		if want := []uint32{2, 2, 5, 5, 2, 5}; !slices.Equal(l, want) {
			failf(t, "All: %v, want %v", l, want)
		}
	}
	p.wantSame(t)
}

// What is told is how it was when the range began, whatever is done meanwhile; a range that begins then tells of that.
func TestAllMeanwhile(t *testing.T) {
	for _, c := range []call{taking(5), taking(9), setting(9, ann(open, 4)), setting(5, ann(shut, 4)), adding(3, ann(shut, 4)), adding(10, ann(shut, 4)), walking(9, 9, 8), walking(9, 4, 8), opening(9, 8, 2, true), clearing()} {
		p := three(t)
		was := p.m.all()
		var l []api.FidAt
		for num, f := range p.f.All() {
			if l = append(l, api.FidAt{Num: num, Fid: f}); num == 2 {
				p.do(t, c)
				p.wantSame(t)
			}
		}
		if !sameAll(l, was) {
			t.Errorf("%+v meanwhile: %+v, want %+v", c, l, was)
		}
		p.wantSame(t)
	}
	p := three(t)
	p.wantDo(t, adding(10, ann(open, 3)))
	for num, f := range p.f.All() { // the one told, and one still to be told
		p.do(t, telling(10, uint64(num)+1, 2))
		p.do(t, telling(num, 7, 7))
		if f.Last != 0 || f.Told != 0 {
			t.Errorf("%d was told as it was not when the range began: %+v", num, f)
		}
	}
	p.wantSame(t)
}

// A range is of when it begins, not of when its function was made; each of two is of its own beginning.
func TestAllIsOfNow(t *testing.T) {
	p := newPair(t, 4)
	all := p.f.All()
	for range all {
		t.Error("something in a table of nothing")
	}
	p.wantDo(t, adding(1, ann(shut, 1)), adding(2, ann(shut, 2)))
	n, m := 0, 0
	for num := range all {
		n++
		p.f.Take(num)
		for range all {
			m++
		}
	}
	if n != 2 || m != 1 {
		t.Errorf("%d and %d fids", n, m)
	}
}

// A caller that gives up a range by panic leaves the table as it is.
func TestAllGivenUp(t *testing.T) {
	p := three(t)
	func() {
		defer func() { recover() }()
		for range p.f.All() {
			panic("given up")
		}
	}()
	p.wantSame(t)
	p.wantDo(t, adding(1, ann(shut, 1)))
}

// Clear gives all; there is nothing then, but as much room as there was.
func TestClear(t *testing.T) {
	p := three(t)
	was := p.m.all()
	if l := p.f.Clear(); !sameAll(l, was) || !slices.Equal(numsOf(l), []uint32{2, 5, 9}) {
		failf(t, "Clear: %+v, want %+v", l, was)
	}
	p.m.clear()
	p.wantSame(t)
	for range 3 {
		if l := p.f.Clear(); len(l) != 0 {
			failf(t, "Clear of nothing: %+v", l)
		}
	}
	for _, c := range []call{taking(2), setting(5, ann(shut, 1)), walking(9, 9, 1), opening(9, 1, 0, false), telling(2, 1, 1)} {
		p.wantRefused(t, c, api.ErrFid)
	}
	for num := range uint32(4) {
		p.wantDo(t, adding(num, ann(open, 1)))
	}
	p.wantRefused(t, adding(9, ann(shut, 1)), api.ErrFidFull)
}

func TestCount(t *testing.T) {
	p := newPair(t, 5)
	want := func(n int) {
		t.Helper()
		if p.f.Count() != n {
			t.Errorf("Count: %d, want %d", p.f.Count(), n)
		}
	}
	want(0)
	p.do(t, adding(1, ann(open, 1)))
	want(1)
	p.do(t, adding(1, ann(shut, 1)))
	p.do(t, adding(noFid, ann(shut, 1)))
	want(1)
	p.do(t, adding(2, ann(auth, 1)))
	p.do(t, adding(0, ann(shut, 1)))
	want(3)
	p.do(t, walking(0, 4, 1))
	want(4)
	p.do(t, walking(0, 0, 1))
	p.do(t, setting(0, ann(open, 1)))
	p.do(t, taking(9))
	want(4)
	p.do(t, taking(1))
	want(3)
	p.f.Clone().Clear()
	want(3)
	p.do(t, clearing())
	want(0)
}

// Of two tables, of which one is a clone of the other, neither knows what is done to the other.
func TestClone(t *testing.T) {
	rnd := rand.New(rand.NewSource(6))
	for range 100 {
		p := grown(t, rnd, 1+rnd.Intn(12), 60)
		c := pair{p.f.Clone(), p.m.clone()}
		c.wantSame(t)
		d := pair{c.f.Clone(), c.m.clone()}
		for range 60 {
			one := oneOf(rnd, p, c)
			one.do(t, one.m.someCall(rnd))
		}
		p.wantSame(t)
		c.wantSame(t)
		d.wantSame(t)
	}
}

// A clone has as many at most; clearing the one leaves the other.
func TestCloneRoom(t *testing.T) {
	p := three(t)
	c := pair{p.f.Clone(), p.m.clone()}
	c.wantDo(t, adding(1, ann(shut, 1)))
	c.wantRefused(t, adding(3, ann(shut, 1)), api.ErrFidFull)
	p.wantDo(t, adding(3, ann(open, 3)))
	p.wantRefused(t, adding(1, ann(shut, 1)), api.ErrFidFull)
	c.wantOpens(t, 3, 1)
	p.wantOpens(t, 3, 2)
	c.do(t, clearing())
	c.wantSame(t)
	p.wantSame(t)
	d := pair{c.f.Clone(), c.m.clone()}
	d.wantSame(t)
	for num := range uint32(4) {
		d.wantDo(t, adding(num, ann(shut, 1)))
	}
	d.wantRefused(t, adding(4, ann(shut, 1)), api.ErrFidFull)
	c.wantSame(t)
}

// A clone that is made within a range is of that moment.
func TestCloneMeanwhile(t *testing.T) {
	p := three(t)
	var l []int
	for num := range p.f.All() {
		p.do(t, taking(num))
		c := pair{p.f.Clone(), p.m.clone()}
		c.wantSame(t)
		l = append(l, c.f.Count())
	}
	if !slices.Equal(l, []int{2, 1, 0}) {
		t.Errorf("Count: %v", l)
	}
}
