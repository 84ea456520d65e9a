package nodes_test

import (
	"math"
	"math/rand"
	"slices"
	"testing"

	"verger/api"
	"verger/nodes"
)

// smallTree is the root with the directory 2 `a` (in it the file 4 `b` and the directory 6 `a`), the file 3 `b`, and the empty directory 5 `c`.
func smallTree(t *testing.T) pair {
	t.Helper()
	p := newPair(t, 10)
	p.wantDo(t, making(1, "a", aDir), 2)
	p.wantDo(t, making(1, "b", aFile), 3)
	p.wantDo(t, making(2, "b", aFile), 4)
	p.wantDo(t, making(1, "c", aDir), 5)
	p.wantDo(t, making(2, "a", aDir), 6)
	return p
}

func TestNode(t *testing.T) {
	p := smallTree(t)
	root := api.Node{Path: 1, Parent: 1, Name: "/", Mode: dirBit | 0755, Uid: "ann", Gid: "staff", Muid: "ann", Kids: 3}
	if n, ok := p.s.Node(1); n != root || !ok {
		t.Errorf("Node(1): %+v, %v", n, ok)
	}
	if n, ok := p.s.Node(2); n.Parent != 1 || n.Name != "a" || n.Kids != 2 || n.Length != 0 || !ok {
		t.Errorf("Node(2): %+v, %v", n, ok)
	}
	for _, path := range []uint64{0, 7, 8, 1 << 32, 1<<32 + 1, 1 << 63, math.MaxUint64} {
		if n, ok := p.s.Node(path); n != (api.Node{}) || ok {
			t.Errorf("Node(%d): %+v, %v", path, n, ok)
		}
	}
}

func TestChild(t *testing.T) {
	p := smallTree(t)
	for _, c := range []struct {
		path uint64
		name string
		want uint64
	}{{1, "a", 2}, {1, "b", 3}, {1, "c", 5}, {2, "b", 4}, {2, "a", 6}, {2, "c", 0}, {5, "a", 0}, {3, "b", 0}, {3, "", 0}, {4, "a", 0}, {6, "a", 0}, {0, "a", 0}, {7, "a", 0}, {math.MaxUint64, "a", 0},
		{1, "A", 0}, {1, "a ", 0}, {1, "a\x00", 0}, {1, "", 0}, {1, ".", 0}, {1, "..", 0}, {2, "..", 0}, {1, "/", 0}, {1, "/a", 0}, {1, "a/b", 0}, {0, "/", 0}} {
		if n, ok := p.s.Child(c.path, c.name); n != c.want || ok != (c.want > 0) {
			t.Errorf("Child(%d, %q): %d, %v", c.path, c.name, n, ok)
		}
	}
}

func TestAfter(t *testing.T) {
	p := smallTree(t)
	for _, c := range []struct{ path, last, want uint64 }{{1, 0, 2}, {1, 1, 2}, {1, 2, 3}, {1, 3, 5}, {1, 4, 5}, {1, 5, 0}, {1, 6, 0}, {1, math.MaxUint64, 0}, {2, 0, 4}, {2, 3, 4}, {2, 4, 6}, {2, 5, 6}, {2, 6, 0},
		{3, 0, 0}, {5, 0, 0}, {6, 0, 0}, {0, 0, 0}, {7, 0, 0}, {math.MaxUint64, 0, 0}} {
		if n, ok := p.s.After(c.path, c.last); n != c.want || ok != (c.want > 0) {
			t.Errorf("After(%d, %d): %d, %v", c.path, c.last, n, ok)
		}
	}
	p.wantDo(t, dropping(3), 3)
	p.wantDo(t, naming(5, "b"), 5)
	p.wantDo(t, making(1, "c", aFile), 7)
	for _, c := range []struct{ last, want uint64 }{{0, 2}, {2, 5}, {3, 5}, {4, 5}, {5, 7}, {7, 0}} {
		if n, ok := p.s.After(1, c.last); n != c.want || ok != (c.want > 0) {
			t.Errorf("behind a drop: After(1, %d): %d, %v", c.last, n, ok)
		}
	}
}

func paths(s *nodes.Store) []uint64 {
	var l []uint64
	for n := range s.All() {
		l = append(l, n.Path)
	}
	return l
}

// All can be gone through again, also within itself, and stops when the caller does.
func TestAll(t *testing.T) {
	p := smallTree(t)
	all := p.s.All()
	for range 3 {
		var l []uint64
		for n := range all {
			l = append(l, n.Path)
			for m := range all {
				l = append(l, m.Path)
				if m.Path == 3 {
					break
				}
			}
			if n.Path == 4 {
				break
			}
		}
		if want := []uint64{1, 1, 2, 3, 2, 1, 2, 3, 3, 1, 2, 3, 4, 1, 2, 3}; !slices.Equal(l, want) {
			t.Fatalf("All: %v, want %v", l, want)
		}
	}
	p.wantDo(t, dropping(6), 6)
	p.wantDo(t, making(5, "new", aFile), 7)
	var l []uint64
	for n := range all {
		l = append(l, n.Path)
	}
	if want := []uint64{1, 2, 3, 4, 5, 7}; !slices.Equal(l, want) || !slices.Equal(paths(p.s), want) {
		t.Errorf("All: %v, want %v", l, want)
	}
}

// What is done while somebody goes through the nodes: each is told as it is when it is told, if it is there then.
func TestAllMeanwhile(t *testing.T) {
	p := smallTree(t)
	var l []uint64
	for n := range p.s.All() {
		l = append(l, n.Path)
		switch n.Path {
		case 1: // one that is told behind is changed, and one is dropped
			p.wantDo(t, naming(2, "other"), 2)
			p.wantDo(t, dropping(3), 3)
		case 2:
			if n.Name != "other" {
				t.Errorf("told as it was: %+v", n)
			}
			p.wantDo(t, dropping(4), 4)
			p.wantDo(t, dropping(6), 6)
			p.wantDo(t, dropping(2), 2) // the one that was told last
			p.wantDo(t, making(1, "new", aDir), 7)
		case 7:
			if n.Kids != 0 {
				t.Errorf("told as it was not yet: %+v", n)
			}
			p.wantDo(t, making(7, "newer", aFile), 8)
		}
		if p.s.Count() == 0 || p.s.Next() < 7 {
			t.Error("looks within a range")
		}
	}
	if want := []uint64{1, 5, 7, 8}; !slices.Equal(l, append([]uint64{1, 2}, want[1:]...)) || !slices.Equal(paths(p.s), want) {
		t.Errorf("All: %v", l)
	}
}

// A range that is begun behind a change knows of it, though its function was made ahead.
func TestAllIsOfNow(t *testing.T) {
	p := newPair(t, 5)
	all := p.s.All()
	p.wantDo(t, making(1, "a", aFile), 2)
	n := 0
	for range all {
		n++
	}
	if n != 2 {
		t.Errorf("%d nodes", n)
	}
}

// A caller that gives up a range by panic leaves the store free for all others.
func TestAllGivenUp(t *testing.T) {
	p := smallTree(t)
	func() {
		defer func() { recover() }()
		for range p.s.All() {
			panic("given up")
		}
	}()
	p.wantDo(t, opening(1, 1), 1)
	p.wantDo(t, making(1, "new", aFile), 7)
	p.wantSame(t)
}

// Of two stores, of which one is a clone of the other, neither knows what is done to the other.
func TestClone(t *testing.T) {
	rnd := rand.New(rand.NewSource(3))
	for range 60 {
		p := grown(t, rnd, 12, 150)
		c := pair{p.s.Clone(), p.m.clone()}
		c.wantSame(t)
		d := pair{c.s.Clone(), c.m.clone()}
		was := d.m.all()
		for range 150 {
			one := oneOf(rnd, p, c)
			one.do(t, one.m.someOp(rnd))
		}
		p.wantSame(t)
		c.wantSame(t)
		wantAll(t, allOf(d.s), was)
	}
}

// Bytes, children and counts of a clone: each of them is its own.
func TestCloneParts(t *testing.T) {
	p := smallTree(t)
	p.wantDo(t, writing(3, 0, []byte("abc")), 3)
	c := pair{p.s.Clone(), p.m.clone()}
	p.wantDo(t, writing(3, 1, []byte("x")), 3)
	p.wantDo(t, writing(3, 256, []byte("x")), 3)
	p.wantDo(t, writing(4, 0, []byte("x")), 4)
	p.wantDo(t, making(5, "new", aFile), 7)
	p.wantDo(t, naming(2, "z"), 2)
	p.wantDo(t, opening(1, 1), 1)
	c.wantSame(t)
	c.wantDo(t, cutting(3, 1), 3)
	c.wantDo(t, dropping(5), 5)
	c.wantDo(t, making(1, "other", aFile), 7)
	p.wantSame(t)
	c.wantSame(t)
}

// A clone has as many nodes at most as the store that it was made of.
func TestCloneFull(t *testing.T) {
	p := newPair(t, 2)
	p.wantDo(t, making(1, "a", aFile), 2)
	c := pair{p.s.Clone(), p.m.clone()}
	c.wantRefused(t, making(1, "b", aFile), api.ErrNodeFull)
	c.wantDo(t, dropping(2), 2)
	p.wantRefused(t, making(1, "b", aFile), api.ErrNodeFull)
	c.wantDo(t, making(1, "b", aFile), 3)
	c.wantRefused(t, making(1, "c", aFile), api.ErrNodeFull)
}
