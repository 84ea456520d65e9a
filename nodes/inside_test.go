package nodes

import (
	"sync"
	"testing"
	"time"

	"verger/api"
)

// Behind the greatest version comes 0. By operations alone it is too far to get there: so it is put there.
func TestGreatestVersion(t *testing.T) {
	s, _ := New(api.Config{Nodes: 2, Owner: "ann", Group: "ann"})
	s.Do(api.Op{Kind: api.OpMake, Path: 1, Node: api.Node{Name: "f"}})
	for path := uint64(1); path <= 2; path++ {
		s.nodes[path].is.Vers = 4294967294
		for _, want := range []uint32{4294967295, 0, 1} {
			if at, e := s.Do(api.Op{Kind: api.OpSet, Path: path, Mask: api.MaskBump}); at != path || e != api.OK {
				t.Errorf("Do: %d, %d", at, e)
			}
			if n, _ := s.Node(path); n.Vers != want {
				t.Errorf("Vers %d, want %d", n.Vers, want)
			}
		}
	}
}

// No more is kept of a file than there are blocks in which something was written, and none of what was cut off.
func TestBlocksKept(t *testing.T) {
	s, _ := New(api.Config{Nodes: 2, Owner: "ann", Group: "ann"})
	s.Do(api.Op{Kind: api.OpMake, Path: 1, Node: api.Node{Name: "f"}})
	want := func(blocks int) {
		t.Helper()
		if n := len(s.nodes[2].blocks); n != blocks {
			t.Errorf("%d blocks are kept, want %d", n, blocks)
		}
	}
	cut := func(size uint64) { s.Do(api.Op{Kind: api.OpCut, Path: 2, Offset: size}) }
	want(0)
	cut(65536)
	want(0)
	s.Do(api.Op{Kind: api.OpBytes, Path: 2, Offset: 65535, Data: []byte("a")})
	want(1)
	for at := uint64(0); at < 65536; at += 256 {
		s.Do(api.Op{Kind: api.OpBytes, Path: 2, Offset: at, Data: []byte("a")})
	}
	want(256)
	cut(65535)
	want(256)
	cut(65280)
	want(255)
	cut(257)
	want(2)
	cut(256)
	want(1)
	cut(1)
	want(1)
	cut(0)
	want(0)
}

// waits tells whether something does not end as long as a lock is held; behind that it has to.
func waits(lock *sync.Mutex, do func()) bool {
	ended := make(chan struct{})
	lock.Lock()
	go func() {
		defer close(ended)
		do()
	}()
	waited := false
	select {
	case <-ended:
	case <-time.After(10 * time.Millisecond):
		waited = true
	}
	lock.Unlock()
	<-ended
	return waited
}

// Whoever looks at a node, or changes it, waits for its lock, and for the table's ahead of that.
func TestWaits(t *testing.T) {
	s, _ := New(api.Config{Nodes: 9, Owner: "ann", Group: "ann"})
	for _, name := range []string{"a", "b", "c"} {
		s.Do(api.Op{Kind: api.OpMake, Path: 1, Node: api.Node{Name: name}})
	}
	do := func(kind api.OpKind, path uint64) func() {
		return func() {
			s.Do(api.Op{Kind: kind, Path: path, Name: "new", Node: api.Node{Name: "new"}, Data: []byte("x")})
		}
	}
	for _, c := range []struct {
		text string
		do   func()
		at   []uint64
	}{
		{"Node", func() { s.Node(2) }, []uint64{2}},
		{"After", func() { s.After(1, 0) }, []uint64{1}},
		{"Read", func() { s.Read(2, 0, 1) }, []uint64{2}},
		{"Child", func() { s.Child(1, "a") }, nil},
		{"Next", func() { s.Next() }, nil},
		{"Count", func() { s.Count() }, nil},
		{"All", func() { s.nodeAfter(2) }, []uint64{3}},
		{"Clone", func() { s.Clone() }, []uint64{1, 2, 3}},
		{"OpSet", do(api.OpSet, 2), []uint64{2}},
		{"OpCut", do(api.OpCut, 2), []uint64{2}},
		{"OpBytes", do(api.OpBytes, 2), []uint64{2}},
		{"OpOpens", do(api.OpOpens, 2), []uint64{2}},
		{"OpName", do(api.OpName, 2), []uint64{2}},
		{"OpMake", do(api.OpMake, 1), []uint64{1}},
	} {
		wantWaits(t, s, c.text, c.do, c.at...)
	}
	wantWaits(t, s, "OpDrop", do(api.OpDrop, 2))
	wantWaits(t, s, "OpDrop", do(api.OpDrop, 3), 3)
	wantWaits(t, s, "OpDrop", do(api.OpDrop, 4), 1)
}

func wantWaits(t *testing.T, s *Store, text string, do func(), at ...uint64) {
	t.Helper()
	if len(at) == 0 && !waits(&s.lock, do) {
		t.Errorf("%s does not wait for the table", text)
	}
	for _, path := range at {
		if !waits(&s.nodes[path].lock, do) {
			t.Errorf("%s does not wait for node %d", text, path)
		}
	}
}
