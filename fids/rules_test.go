package fids_test

import (
	"math"
	"math/rand"
	"runtime"
	"slices"
	"strings"
	"sync"
	"testing"

	"verger/api"
	"verger/fids"
)

// R1: nothing panics and all ends, whatever is handed in; R5: an error is one of the chapter's, and beside it there is nothing.
func TestAnything(t *testing.T) {
	rnd := rand.New(rand.NewSource(11))
	errs := []api.Errno{api.OK, api.ErrArg, api.ErrFid, api.ErrFidUsed, api.ErrFidFull, api.ErrFidBad, api.ErrOpen, api.ErrAuth, api.ErrShut}
	for range 100 {
		p := newPair(t, 1+rnd.Intn(256))
		for range 300 {
			c := p.m.someCall(rnd)
			c.fid = someFid(rnd, api.FidState(rnd.Intn(6)), api.FidState(rnd.Uint32()))
			c.node, c.fid.Node = number(rnd), number(rnd)
			if e := p.do(t, c); !slices.Contains(errs, e) {
				failf(t, "%+v: %d", c, e)
			}
			num := p.m.someNum(rnd)
			if f, e := p.f.Get(num); !slices.Contains(errs, e) || e != api.OK && !same(f, api.Fid{}) {
				failf(t, "Get(%d): %+v, %d", num, f, e)
			}
			if e := p.f.Room(num, c.newnum); !slices.Contains(errs, e) {
				failf(t, "Room(%d, %d): %d", num, c.newnum, e)
			}
		}
		p.wantSame(t)
	}
}

// R1: also the greatest numbers, and very long texts and lists.
func TestExtremes(t *testing.T) {
	long := strings.Repeat("x", 1<<20)
	for _, n := range []int{math.MinInt, -1, 0, math.MaxInt} {
		for state := range api.FidState(5) {
			f := api.Fid{State: state, Node: uint64(n), User: long, Mode: 255, Last: uint64(n), Told: uint64(n), Talk: api.Talk{User: long, Tree: long, Ours: uint64(n), Theirs: uint64(n), Step: 255, Said: n, Heard: []byte(long)}}
			for _, num := range []uint32{0, uint32(n), noFid - 1, noFid} {
				p := newPair(t, 2)
				p.do(t, adding(num, f))
				p.do(t, setting(num, f))
				p.do(t, walking(num, 5, math.MaxUint64))
				p.do(t, walking(num, num, math.MaxUint64))
				p.do(t, opening(num, math.MaxUint64, 255, true))
				p.do(t, telling(num, math.MaxUint64, math.MaxUint64))
				p.wantSame(t)
				pair{p.f.Clone(), p.m}.wantSame(t)
				p.do(t, taking(num))
				p.do(t, clearing())
			}
		}
	}
}

// R2: nothing that is handed in is written into, nor its spare room; and nothing is kept of it.
func TestHandedInStays(t *testing.T) {
	room := []byte("heard, and spare room")
	was := slices.Clone(room)
	f := api.Fid{State: open, Talk: api.Talk{Heard: room[:5]}}
	p := newPair(t, 4)
	p.wantDo(t, adding(1, f), adding(2, f), setting(2, f), telling(1, 2, 3), adding(3, f), adding(4, f), taking(3))
	p.wantRefused(t, adding(1, f), api.ErrFidUsed)
	p.f.Clone().Clear()
	if !slices.Equal(room, was) {
		t.Errorf("a list was written into: %q", room)
	}
	for i := range room {
		room[i] = 'x'
	}
	for num, got := range p.f.All() {
		if string(got.Talk.Heard) != "heard" {
			t.Errorf("%d: what was handed in is kept: %q", num, got.Talk.Heard)
		}
	}
	p.wantSame(t)
}

// spoil changes all bytes of a list, and its spare room.
func spoil(b []byte) {
	b = b[:cap(b)]
	for i := range b {
		b[i] = '!'
	}
}

func spoilAll(l []api.FidAt) {
	l = l[:cap(l)]
	for i := range l {
		spoil(l[i].Fid.Talk.Heard)
		l[i] = api.FidAt{Num: 77}
	}
}

// R2: what comes out is new memory, spare room too: of each call, of each time that it is asked.
func TestComesOutNew(t *testing.T) {
	rnd := rand.New(rand.NewSource(12))
	for range 50 {
		p := newPair(t, 9)
		for num := range uint32(6) {
			p.do(t, adding(num, goodFid(rnd)))
		}
		c := pair{p.f.Clone(), p.m.clone()}
		all := p.f.All()
		kept, want := collected(p.f), c.m.all()
		for num, f := range all {
			spoil(f.Talk.Heard)
			got, _ := p.f.Get(num)
			spoil(got.Talk.Heard)
			again, _ := p.f.Get(num)
			_ = append(again.Talk.Heard, "more, and more, and more"...)
			for _, other := range all { // of one range nothing is another one's
				spoil(other.Talk.Heard)
			}
		}
		p.wantSame(t)
		p.f.Told(0, 1, 1)
		spoilAll(collected(p.f.Clone()))
		spoilAll(p.f.Clone().Clear())
		got, e := p.f.Take(3)
		spoil(got.Talk.Heard)
		p.f.Add(3, got)
		if e != api.OK || !sameAll(kept, want) {
			failf(t, "what came out of an earlier range: %+v, want %+v", kept, want)
		}
		spoilAll(p.f.Clear())
		c.wantSame(t)
	}
}

// R2: what was told within a range is not what a range around it tells, nor what Get, and then Clear, give.
func TestRangeIsNew(t *testing.T) {
	p := three(t)
	for num, f := range p.f.All() {
		for _, inner := range p.f.All() {
			spoil(inner.Talk.Heard)
		}
		if num == 5 && string(f.Talk.Heard) != "heard" {
			t.Errorf("All: %q", f.Talk.Heard)
		}
	}
	one, _ := p.f.Get(5)
	l := p.f.Clear()
	spoil(one.Talk.Heard)
	if string(l[1].Fid.Talk.Heard) != "heard" {
		t.Errorf("Clear: %q", l[1].Fid.Talk.Heard)
	}
}

// R2: lists that come out share no memory with one another: what is put behind one changes no other.
func TestSpareRoom(t *testing.T) {
	p := newPair(t, 9)
	for num := range uint32(9) {
		p.wantDo(t, adding(num, api.Fid{State: auth, Talk: api.Talk{Heard: []byte("abc")}}))
	}
	l := append(collected(p.f), p.f.Clone().Clear()...)
	for i := range l {
		_ = append(l[i].Fid.Talk.Heard, byte(i))
		b := l[i].Fid.Talk.Heard
		spoil(b[len(b):cap(b)])
	}
	for _, f := range l {
		if string(f.Fid.Talk.Heard) != "abc" {
			t.Errorf("%d: %q", f.Num, f.Fid.Talk.Heard)
		}
	}
	p.wantSame(t)
}

// R2: a list that has nothing in it may be nil or not.
func TestNilIsEmpty(t *testing.T) {
	for _, heard := range [][]byte{nil, {}, make([]byte, 0, 9)} {
		f := api.Fid{State: auth, User: "eve", Talk: api.Talk{Heard: heard}}
		p := newPair(t, 2)
		p.wantDo(t, adding(1, f), adding(2, f), setting(2, f))
		p.wantIs(t, 1, api.Fid{State: auth, User: "eve"})
		p.wantDo(t, taking(1))
		if l := p.f.Clear(); len(l) != 1 || len(l[0].Fid.Talk.Heard) != 0 {
			t.Errorf("Clear: %+v", l)
		}
	}
}

// R2: All gives a function also where there is nothing.
func TestAllIsThere(t *testing.T) {
	f := newTable(t, 1)
	for range 2 {
		all := f.All()
		if all == nil {
			t.Fatal("All: nil")
		}
		for num := range all {
			t.Errorf("All: %d", num)
		}
		f.Clear()
	}
}

// R3: the same calls are answered the same by each table, whatever is asked between, and whatever is done to others; looking changes nothing.
func TestSameAgain(t *testing.T) {
	p, idle := newPair(t, 8), three(t)
	rnd := rand.New(rand.NewSource(13))
	for range 300 {
		p.do(t, p.m.someCall(rnd))
	}
	again := newPair(t, 8)
	rnd = rand.New(rand.NewSource(13))
	for range 300 {
		c := again.m.someCall(rnd)
		again.wantSame(t)
		again.do(t, c)
	}
	if l, want := collected(again.f), collected(p.f); !sameAll(l, want) {
		t.Errorf("All: %+v, want %+v", l, want)
	}
	for range 3 {
		p.wantSame(t)
		again.wantSame(t)
		idle.wantSame(t)
	}
}

// Nothing is kept in common from table to table: goroutines that each have one of their own, clones too, do not disturb one another.
func TestApart(t *testing.T) {
	var all sync.WaitGroup
	first := three(t)
	for seed := range int64(4) {
		p := pair{first.f.Clone(), first.m.clone()}
		all.Go(func() {
			rnd := rand.New(rand.NewSource(seed))
			for range 1000 {
				f := goodFid(rnd)
				p.f.Set(5, f)
				if got, e := p.f.Get(5); !same(got, f) || e != api.OK {
					t.Errorf("Get: %+v, %d; want %+v", got, e, f)
				}
			}
		})
	}
	all.Wait()
	first.wantSame(t)
}

// R4: nothing goes on when a call has answered.
func TestNoGoroutines(t *testing.T) {
	was := runtime.NumGoroutine()
	p := three(t)
	for range p.f.All() {
		break
	}
	fids.New(0)
	p.f.Clone().Clear()
	p.wantSame(t)
	if n := runtime.NumGoroutine(); n > was {
		t.Errorf("%d goroutines more", n-was)
	}
}
