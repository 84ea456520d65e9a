package nodes_test

import (
	"bytes"
	"fmt"
	"math/rand"
	"slices"
	"testing"

	"verger/api"
	"verger/nodes"
)

// The chapter's section "What holds": for operations of all kinds, in whatever order.

// The store does as the model, and tells as it does.
func TestLikeTheModel(t *testing.T) {
	rnd := rand.New(rand.NewSource(4))
	told := map[api.Errno]int{}
	for range 150 {
		p := newPair(t, 1+rnd.Intn(16))
		for range 400 {
			o := p.m.someOp(rnd)
			_, e := p.do(t, o)
			told[e]++
			p.wantNode(t, o.Path)
			p.wantRead(t, o.Path, o.Offset-uint64(rnd.Intn(300)), rnd.Intn(600))
			p.wantAfter(t, p.m.somePath(rnd), p.m.somePath(rnd))
			p.wantChild(t, p.m.somePath(rnd), someName(rnd))
		}
		p.wantSame(t)
	}
	for _, e := range []api.Errno{api.OK, api.ErrArg, api.ErrName, api.ErrNodeNone, api.ErrNodeKind, api.ErrNodeTwice, api.ErrNodeFull, api.ErrNodeBlock, api.ErrNodeKids, api.ErrNodeBig, api.ErrNodeOpens} {
		if told[e] < 100 {
			t.Errorf("error %d was told %d times", e, told[e])
		}
	}
}

// treeFault says why what a store tells itself is no tree; nothing, if it is one.
func treeFault(s *nodes.Store, most int) string {
	type place struct {
		dir  uint64
		name string
	}
	all, kids, taken := map[uint64]api.Node{}, map[uint64]int{}, map[place]bool{}
	for n := range s.All() {
		all[n.Path] = n
		at := place{n.Parent, n.Name}
		if child, ok := s.Child(n.Parent, n.Name); n.Path != 1 && (taken[at] || child != n.Path || !ok) {
			return fmt.Sprintf("%+v: taken ahead: %v; Child: %d, %v", n, taken[at], child, ok)
		}
		if n.Path != 1 {
			kids[n.Parent]++
			taken[at] = true
		}
	}
	for path, n := range all {
		if n.Kids != kids[path] || n.Mode < dirBit && n.Kids > 0 {
			return fmt.Sprintf("%+v has %d children", n, kids[path])
		}
		for steps := 0; n.Path != 1; steps++ {
			up, ok := all[n.Parent]
			if !ok || up.Mode < dirBit || steps > len(all) {
				return fmt.Sprintf("the way up from %d ends at %+v", path, n)
			}
			n = up
		}
	}
	if root := all[1]; root.Parent != 1 || root.Name != "/" {
		return fmt.Sprintf("the root is %+v", root)
	}
	if s.Count() != len(all) || len(all) > most {
		return fmt.Sprintf("Count %d, of %d at most; All tells %d", s.Count(), most, len(all))
	}
	return ""
}

// wantTree asks of what a store tells itself that it is a tree.
func wantTree(t *testing.T, s *nodes.Store, most int) {
	t.Helper()
	if fault := treeFault(s, most); fault != "" {
		t.Error(fault)
	}
}

// It is a tree, whatever is done.
func TestIsTree(t *testing.T) {
	rnd := rand.New(rand.NewSource(5))
	for range 60 {
		most := 1 + rnd.Intn(30)
		s, m := newStore(t, most), newPair(t, most).m
		for range 300 {
			o := m.someOp(rnd)
			if rnd.Intn(2) == 0 {
				o.Kind = oneOf(rnd, api.OpMake, api.OpDrop, api.OpName)
			}
			s.Do(o)
			m.do(o)
			wantTree(t, s, most)
		}
	}
}

// mind is what was written last of a file, byte by byte, and how long it is.
type mind struct {
	bytes  [65536]byte
	length uint64
}

func (m *mind) does(o api.Op) {
	if o.Kind == api.OpCut {
		clear(m.bytes[min(o.Offset, m.length):])
		m.length = o.Offset
	}
	if o.Kind == api.OpBytes {
		copy(m.bytes[o.Offset:], o.Data)
		m.length = max(m.length, o.Offset+uint64(len(o.Data)))
	}
}

// Bytes stay: what is read is what was written there last, of two files, whatever is done to them.
func TestBytesStay(t *testing.T) {
	rnd := rand.New(rand.NewSource(6))
	for range 40 {
		m, s, minds := newPair(t, 4).m, newStore(t, 4), map[uint64]*mind{2: {}, 3: {}}
		s.Do(making(1, "f", aFile))
		s.Do(making(1, "g", aFile))
		for range 300 {
			path, o := oneOf[uint64](rnd, 2, 3), m.someOp(rnd)
			o.Kind, o.Path = oneOf(rnd, api.OpBytes, api.OpBytes, api.OpBytes, api.OpCut, api.OpSet, api.OpOpens, api.OpName), path
			if _, e := s.Do(o); e == api.OK {
				minds[path].does(o)
			}
			look := oneOf[uint64](rnd, 2, 3)
			want := minds[look].bytes[:minds[look].length]
			if n, _ := s.Node(look); !bytes.Equal(s.Read(look, 0, 65536), want) || n.Length != uint64(len(want)) {
				t.Fatalf("behind %s: other bytes of %d; Length %d", opText(o), look, n.Length)
			}
		}
	}
}

// changed tells which nodes are other ones in two looks at a store, but for their Kids, and of which the Kids are.
func changed(was, is all) (others, kids []uint64) {
	for _, a := range [][2]all{{was, is}, {is, was}} {
		for i, n := range a[0].nodes {
			at := slices.IndexFunc(a[1].nodes, func(m api.Node) bool { return m.Path == n.Path })
			if at < 0 {
				others = append(others, n.Path)
				continue
			}
			m := a[1].nodes[at]
			if n.Kids != m.Kids {
				kids = append(kids, n.Path)
			}
			m.Kids = n.Kids
			if n != m || a[0].data[i] != a[1].data[at] {
				others = append(others, n.Path)
			}
		}
	}
	slices.Sort(others)
	slices.Sort(kids)
	return slices.Compact(others), slices.Compact(kids)
}

// Nothing else: an operation changes its node, and its parent's Kids; one that is refused changes nothing.
func TestNothingElse(t *testing.T) {
	rnd := rand.New(rand.NewSource(7))
	refused := 0
	for range 40 {
		p := grown(t, rnd, 10, 60)
		for range 100 {
			o, was := p.m.someOp(rnd), allOf(p.s)
			before, _ := p.s.Node(o.Path)
			path, e := p.s.Do(o)
			p.m.do(o)
			is := allOf(p.s)
			others, kids := changed(was, is)
			wantOthers, wantKids, next := []uint64{path}, []uint64(nil), was.next
			switch {
			case e != api.OK:
				wantOthers = nil
				refused++
			case o.Kind == api.OpMake:
				wantKids, next = []uint64{o.Path}, was.next+1
			case o.Kind == api.OpDrop:
				wantKids = []uint64{before.Parent}
			case len(others) == 0: // as it was: a name that it had, a mask that names nothing
				wantOthers = nil
			}
			if !slices.Equal(others, wantOthers) || !slices.Equal(kids, wantKids) || is.next != next {
				t.Fatalf("%s: %d, %d: it changed %v, the Kids of %v, next %d", opText(o), path, e, others, kids, is.next)
			}
		}
	}
	if refused < 500 {
		t.Errorf("%d were refused", refused)
	}
}

// What an operation names of its node is changed, and no more: Name by OpName alone, Opens by OpOpens, bytes by OpCut and OpBytes.
func TestNoOtherField(t *testing.T) {
	rnd := rand.New(rand.NewSource(8))
	for range 60 {
		p := grown(t, rnd, 10, 60)
		for range 100 {
			o := p.m.someOp(rnd)
			was, _ := p.s.Node(o.Path)
			data := string(p.s.Read(o.Path, 0, 65536))
			_, e := p.do(t, o)
			is, _ := p.s.Node(o.Path)
			if e != api.OK || o.Kind == api.OpDrop {
				continue
			}
			switch o.Kind {
			case api.OpMake:
				was.Kids = is.Kids
			case api.OpName:
				was.Name = is.Name
			case api.OpOpens:
				was.Opens = is.Opens
			case api.OpCut, api.OpBytes:
				was.Length, data = is.Length, string(p.s.Read(o.Path, 0, 65536))
			case api.OpSet:
				was.Mode, was.Uid, was.Gid, was.Muid, was.Atime, was.Mtime, was.Vers = is.Mode, is.Uid, is.Gid, is.Muid, is.Atime, is.Mtime, is.Vers
			}
			if was != is || data != string(p.s.Read(o.Path, 0, 65536)) {
				t.Fatalf("%s: from %+v to %+v", opText(o), was, is)
			}
		}
	}
}

// Order does not matter between two operations about two nodes, if neither makes or drops, and not both give names.
func TestOrderIsNothing(t *testing.T) {
	rnd := rand.New(rand.NewSource(9))
	pairs := 0
	for range 60 {
		p := grown(t, rnd, 10, 60)
		for range 100 {
			a, b := p.m.someOp(rnd), p.m.someOp(rnd)
			makes := func(o api.Op) bool { return o.Kind == api.OpMake || o.Kind == api.OpDrop }
			if a.Path == b.Path || makes(a) || makes(b) || a.Kind == api.OpName && b.Kind == api.OpName {
				continue
			}
			pairs++
			one, other := p.s.Clone(), p.s.Clone()
			a1, ae1 := one.Do(a)
			b1, be1 := one.Do(b)
			b2, be2 := other.Do(b)
			a2, ae2 := other.Do(a)
			if a1 != a2 || ae1 != ae2 || b1 != b2 || be1 != be2 {
				t.Fatalf("%s, %s: %d %d, %d %d, or %d %d, %d %d", opText(a), opText(b), a1, ae1, b1, be1, a2, ae2, b2, be2)
			}
			wantAll(t, allOf(one), allOf(other))
		}
	}
	if pairs < 1000 {
		t.Errorf("%d pairs", pairs)
	}
}

// Paths rise: After tells a directory's children in the order in which they were made, and no path comes twice.
func TestPathsRise(t *testing.T) {
	rnd := rand.New(rand.NewSource(10))
	for range 40 {
		p := newPair(t, 20)
		made, last := map[uint64][]uint64{}, uint64(1)
		for range 300 {
			o := p.m.someOp(rnd)
			o.Kind = oneOf(rnd, api.OpMake, api.OpMake, api.OpDrop, api.OpName)
			before, _ := p.s.Node(o.Path)
			next := p.s.Next()
			path, e := p.do(t, o)
			if e == api.OK && o.Kind == api.OpMake {
				if path <= last || path != next || p.s.Next() != next+1 {
					t.Fatalf("%d behind %d; Next was %d, and is %d", path, last, next, p.s.Next())
				}
				last = path
				made[o.Path] = append(made[o.Path], path)
			} else if p.s.Next() != next {
				t.Fatalf("%s: Next was %d, and is %d", opText(o), next, p.s.Next())
			}
			if e == api.OK && o.Kind == api.OpDrop {
				dir := made[before.Parent]
				at := slices.Index(dir, path)
				made[before.Parent] = slices.Delete(slices.Clone(dir), at, at+1)
			}
		}
		for dir, want := range made {
			var l []uint64
			for path, ok := p.s.After(dir, 0); ok; path, ok = p.s.After(dir, path) {
				l = append(l, path)
			}
			if !slices.Equal(l, want) {
				t.Fatalf("of %d After tells %v, made were %v", dir, l, want)
			}
		}
	}
}
