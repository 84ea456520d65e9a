package nodes_test

import (
	"math"
	"math/rand"
	"runtime"
	"slices"
	"strings"
	"testing"

	"verger/api"
	"verger/nodes"
)

// R1: nothing panics and all ends, whatever is handed in; R5: an error is one of the chapter's, and beside it there is nothing.
func TestAnything(t *testing.T) {
	rnd := rand.New(rand.NewSource(11))
	errs := []api.Errno{api.OK, api.ErrArg, api.ErrName, api.ErrNodeNone, api.ErrNodeKind, api.ErrNodeTwice, api.ErrNodeFull, api.ErrNodeBlock, api.ErrNodeKids, api.ErrNodeBig, api.ErrNodeOpens}
	number := func() uint64 { return rnd.Uint64() >> rnd.Intn(64) }
	text := func() string {
		b := make([]byte, rnd.Intn(40))
		rnd.Read(b)
		return string(b)
	}
	for range 50 {
		s := newStore(t, 1+rnd.Intn(8))
		for range 2000 {
			o := api.Op{Kind: api.OpKind(rnd.Intn(9)), Path: number() % 10, Name: text(), Mask: api.Mask(rnd.Intn(256)), Offset: number(), Data: []byte(text()), N: int(number()) - int(number())}
			o.Node = api.Node{Path: number(), Parent: number(), Name: text(), Mode: uint32(number()), Uid: text(), Gid: text(), Muid: text(), Length: number(), Opens: int(number()), Kids: int(number())}
			if rnd.Intn(20) == 0 {
				o.Path = number()
			}
			if path, e := s.Do(o); !slices.Contains(errs, e) || (path == 0) != (e != api.OK) {
				t.Fatalf("Do(%s): %d, %d", opText(o), path, e)
			}
			if n, ok := s.Node(o.Path); !ok && n != (api.Node{}) {
				t.Fatalf("Node(%d): %+v, %v", o.Path, n, ok)
			}
			if c, ok := s.Child(o.Path, o.Name); (c == 0) == ok {
				t.Fatalf("Child(%d, %q): %d, %v", o.Path, o.Name, c, ok)
			}
			if a, ok := s.After(o.Path, o.Offset); (a == 0) == ok {
				t.Fatalf("After(%d, %d): %d, %v", o.Path, o.Offset, a, ok)
			}
			if b := s.Read(o.Path, o.Offset, o.N); len(b) > max(o.N, 0) {
				t.Fatalf("Read(%d, %d, %d): %d bytes", o.Path, o.Offset, o.N, len(b))
			}
		}
		wantTree(t, s, 8)
	}
}

// R1: also the greatest numbers, and very long texts and lists.
func TestExtremes(t *testing.T) {
	long := strings.Repeat("x", 1<<20)
	for _, path := range []uint64{0, 1, 2, 3, math.MaxUint64} {
		for _, kind := range []api.OpKind{0, 1, 2, 3, 4, 5, 6, 7, 8, 255} {
			for _, o := range []api.Op{
				{Name: long, Mask: 255, Node: api.Node{Name: long, Mode: math.MaxUint32, Uid: long, Gid: long, Muid: long}, Offset: math.MaxUint64, Data: []byte(long), N: math.MaxInt},
				{Node: api.Node{Path: math.MaxUint64, Length: math.MaxUint64, Opens: math.MinInt, Kids: math.MinInt}, N: math.MinInt},
			} {
				p := withFile(t)
				o.Kind, o.Path = kind, path
				p.do(t, o)
				p.wantSame(t)
			}
		}
	}
	p := withFile(t)
	p.wantChild(t, 1, long)
	p.wantChild(t, 1, "f"+long)
}

// R2: nothing that is handed in is written into, nor its spare room; and nothing is kept of it.
func TestHandedInStays(t *testing.T) {
	p := withFile(t)
	room := counted(300)
	was := slices.Clone(room)
	for _, size := range []int{0, 1, 200, 256, 257} {
		p.do(t, writing(2, 0, room[:size]))
		p.do(t, writing(2, 512, room[:size]))
	}
	p.do(t, cutting(2, 100))
	p.s.Clone()
	if !slices.Equal(room, was) {
		t.Error("a list was written into")
	}
	clear(room)
	p.wantSame(t)
}

// R2: what comes out is new memory, spare room too.
func TestComesOutNew(t *testing.T) {
	p := withFile(t)
	p.fill(t, 2, 700)
	for range 3 {
		a, b := p.s.Read(2, 0, 700), p.s.Read(2, 0, 700)
		kept := slices.Clone(b)
		for _, l := range [][]byte{a[:cap(a)], p.s.Read(2, 100, 50)} {
			clear(l[:cap(l)])
		}
		_ = append(p.s.Read(2, 0, 256), "more"...)
		if !slices.Equal(b, kept) {
			t.Error("two reads share memory")
		}
		p.wantSame(t)
	}
}

// R2: a list that has nothing in it may be nil or not.
func TestNilIsEmpty(t *testing.T) {
	p := withFile(t)
	p.wantRefused(t, writing(2, 0, nil), api.ErrNodeBlock)
	p.wantRefused(t, writing(2, 0, []byte{}), api.ErrNodeBlock)
	for _, kind := range []api.OpKind{api.OpSet, api.OpCut, api.OpOpens} {
		p.wantDo(t, api.Op{Kind: kind, Path: 2, Data: nil}, 2)
		p.wantDo(t, api.Op{Kind: kind, Path: 2, Data: []byte{}}, 2)
	}
}

// R2: All gives a function also where there is nothing but the root, and behind all sorts of errors.
func TestAllIsThere(t *testing.T) {
	s := newStore(t, 1)
	s.Do(api.Op{})
	s.Do(dropping(1))
	if s.All() == nil || !slices.Equal(paths(s), []uint64{1}) {
		t.Errorf("All: %v", paths(s))
	}
}

// R3: stores know nothing of one another, however many are made of one configuration; and looking changes nothing.
func TestSameAgain(t *testing.T) {
	rnd := rand.New(rand.NewSource(12))
	c := config(8)
	one, e1 := nodes.New(c)
	other, e2 := nodes.New(c)
	if e1 != api.OK || e2 != api.OK {
		t.Fatal(e1, e2)
	}
	m, _ := newModel(c)
	p, idle := pair{one, m}, pair{other, m.clone()}
	for range 300 {
		p.do(t, p.m.someOp(rnd))
		idle.s.Do(api.Op{Kind: api.OpDrop, Path: 1})
	}
	for range 3 {
		p.wantSame(t)
		idle.wantSame(t)
	}
	again := newPair(t, 8)
	rnd = rand.New(rand.NewSource(12))
	for range 300 {
		again.do(t, again.m.someOp(rnd))
	}
	wantAll(t, allOf(again.s), allOf(p.s))
}

// R4: nothing goes on when a call has answered.
func TestNoGoroutines(t *testing.T) {
	was := runtime.NumGoroutine()
	p := smallTree(t)
	for range p.s.All() {
		break
	}
	p.s.Clone()
	p.do(t, dropping(1))
	p.do(t, writing(3, 0, []byte("x")))
	p.s.Read(3, 0, 1)
	if n := runtime.NumGoroutine(); n > was {
		t.Errorf("%d goroutines more", n-was)
	}
}
