package nodes_test

import (
	"math/rand"
	"strconv"
	"strings"
	"testing"

	"verger/api"
	"verger/nodes"
)

// The words of a row, to write operations by.

func making(path uint64, name string, mode uint32) api.Op {
	return api.Op{Kind: api.OpMake, Path: path, Node: api.Node{Name: name, Mode: mode, Uid: "ann", Gid: "staff", Muid: "bob"}}
}

func dropping(path uint64) api.Op { return api.Op{Kind: api.OpDrop, Path: path} }

func naming(path uint64, name string) api.Op {
	return api.Op{Kind: api.OpName, Path: path, Name: name}
}

const aDir, aFile = 0x80000000 | 0700, 0600

func (p pair) wantDo(t *testing.T, o api.Op, want uint64) {
	t.Helper()
	if got, e := p.do(t, o); got != want || e != api.OK {
		t.Errorf("Do(%s): %d, %d; want %d", opText(o), got, e, want)
	}
}

func (p pair) wantRefused(t *testing.T, o api.Op, want api.Errno) {
	t.Helper()
	was := p.m.all()
	if got, e := p.do(t, o); got != 0 || e != want {
		t.Errorf("Do(%s): %d, %d; want it refused by %d", opText(o), got, e, want)
	}
	wantAll(t, allOf(p.s), was)
}

func TestNew(t *testing.T) {
	long := strings.Repeat("x", 32)
	for _, n := range []int{1, 2, 3, 100, 4095, 4096} {
		for _, perm := range []uint32{0, 1, 0755, 0777} {
			for _, user := range []string{"a", "ann", "é", "a b", ":,#/", "\n", long, strings.Repeat("é", 16), "\ufffd"} {
				for _, c := range []api.Config{{Nodes: n, Perm: perm, Owner: user, Group: "staff"}, {Nodes: n, Perm: perm, Owner: "ann", Group: user}} {
					s, e := nodes.New(c)
					if s == nil || e != api.OK {
						t.Fatalf("New(%+v): %v, %d", c, s, e)
					}
					m, _ := newModel(c)
					pair{s, m}.wantSame(t)
				}
			}
		}
	}
}

// A configuration that is none: of each field what may be no more.
func TestNewRefused(t *testing.T) {
	for _, n := range []int{0, -1, 4097, -4096, 1 << 40, -1 << 63, 1<<63 - 1} {
		wantNoStore(t, func(c *api.Config) { c.Nodes = n })
	}
	for bit := range 32 {
		if bit > 8 {
			wantNoStore(t, func(c *api.Config) { c.Perm = 1 << bit })
			wantNoStore(t, func(c *api.Config) { c.Perm |= 1 << bit })
		}
	}
	for _, user := range []string{"", "\x00", "a\x00b", "\xff", "a\xff", "\xc3", "\xed\xa0\x80", strings.Repeat("x", 33), strings.Repeat("é", 16) + "x", strings.Repeat("x", 70000)} {
		wantNoStore(t, func(c *api.Config) { c.Owner = user })
		wantNoStore(t, func(c *api.Config) { c.Group = user })
		wantNoStore(t, func(c *api.Config) { c.Owner, c.Group = user, user })
	}
}

func wantNoStore(t *testing.T, change func(*api.Config)) {
	t.Helper()
	c := config(10)
	change(&c)
	if s, e := nodes.New(c); s != nil || e != api.ErrArg {
		t.Errorf("New(%+v): %v, %d", c, s, e)
	}
	if _, ok := newModel(c); ok {
		t.Errorf("of %+v there is a model", c)
	}
}

// Of a configuration nothing else is looked at.
func TestNewLooksAtNoMore(t *testing.T) {
	c := config(10)
	c.Users, c.Seed, c.Msize, c.Fids, c.Tags, c.Workers = "\xff:", 1<<63, 1, -1, 1<<40, -7
	s, e := nodes.New(c)
	if s == nil || e != api.OK {
		t.Fatalf("New(%+v): %v, %d", c, s, e)
	}
	m, _ := newModel(config(10))
	pair{s, m}.wantSame(t)
}

// The chapter's examples 1 and 2.
func TestTreeExample(t *testing.T) {
	p := newPair(t, 3)
	if p.s.Count() != 1 || p.s.Next() != 2 {
		t.Errorf("Count %d, Next %d", p.s.Count(), p.s.Next())
	}
	p.wantDo(t, making(1, "a", aDir), 2)
	p.wantDo(t, making(2, "b", aFile), 3)
	if p.s.Count() != 3 {
		t.Errorf("Count %d", p.s.Count())
	}
	p.wantRefused(t, making(2, "b", aFile), api.ErrNodeTwice)
	p.wantRefused(t, making(2, "c", aFile), api.ErrNodeFull)
	if p.s.Next() != 4 {
		t.Errorf("Next %d", p.s.Next())
	}
	p.wantRefused(t, dropping(2), api.ErrNodeKids)
	p.wantDo(t, dropping(3), 3)
	p.wantDo(t, making(2, "b", aFile), 4)
	p.wantSame(t)
}

// What a new node is like: only what is named of what was handed in is in it.
func TestMade(t *testing.T) {
	p := newPair(t, 20)
	full := api.Node{Path: 77, Parent: 78, Name: "full", Mode: 0xe40001ff, Uid: "u", Gid: "g", Muid: "m", Atime: 5, Mtime: 4294967295, Vers: 9, Length: 10, Opens: 11, Kids: 12}
	p.wantDo(t, api.Op{Kind: api.OpMake, Path: 1, Node: full, Name: "\xff", Mask: 255, Offset: 1 << 63, Data: make([]byte, 1000), N: -9}, 2)
	want := api.Node{Path: 2, Parent: 1, Name: "full", Mode: 0xe40001ff, Uid: "u", Gid: "g", Muid: "m", Atime: 5, Mtime: 4294967295}
	if n, ok := p.s.Node(2); n != want || !ok {
		t.Errorf("Node(2): %+v", n)
	}
	p.wantDo(t, api.Op{Kind: api.OpMake, Path: 2, Node: api.Node{Name: "bare"}}, 3)
	if n, ok := p.s.Node(3); n != (api.Node{Path: 3, Parent: 2, Name: "bare"}) || !ok {
		t.Errorf("Node(3): %+v", n)
	}
	if n, _ := p.s.Node(2); n.Kids != 1 {
		t.Errorf("Kids of 2: %d", n.Kids)
	}
	p.wantSame(t)
}

// Where a node may not be made, or not so; of two errors that apply the first one is told.
func TestMakeRefused(t *testing.T) {
	p := newPair(t, 4)
	p.wantDo(t, making(1, "d", aDir), 2)
	p.wantDo(t, making(1, "f", aFile), 3)
	bad := func(path uint64, change func(*api.Node)) api.Op {
		o := making(path, "new", aFile)
		change(&o.Node)
		return o
	}
	for bit := range 32 {
		if o := bad(1, func(n *api.Node) { n.Mode = 1 << bit }); !isMode(1 << bit) {
			p.wantRefused(t, o, api.ErrArg)
			o.Node.Mode |= 0xe40001ff
			p.wantRefused(t, o, api.ErrArg)
		}
	}
	for _, user := range []string{"\x00", "\xff", "a\xc3", strings.Repeat("x", 33), strings.Repeat("é", 17)} {
		p.wantRefused(t, bad(1, func(n *api.Node) { n.Uid = user }), api.ErrArg)
		p.wantRefused(t, bad(1, func(n *api.Node) { n.Gid = user }), api.ErrArg)
		p.wantRefused(t, bad(1, func(n *api.Node) { n.Muid = user }), api.ErrArg)
		p.wantRefused(t, bad(3, func(n *api.Node) { n.Muid = user }), api.ErrNodeKind)
		p.wantRefused(t, bad(9, func(n *api.Node) { n.Muid = user }), api.ErrNodeNone)
		p.wantRefused(t, bad(1, func(n *api.Node) { n.Muid, n.Name = user, ".." }), api.ErrArg)
		p.wantRefused(t, bad(1, func(n *api.Node) { n.Muid, n.Name = user, "f" }), api.ErrArg)
	}
	for _, name := range badNames() {
		p.wantRefused(t, making(1, name, aFile), api.ErrName)
		p.wantRefused(t, making(3, name, aFile), api.ErrNodeKind)
	}
	p.wantRefused(t, making(1, "f", aDir), api.ErrNodeTwice)
	p.wantRefused(t, making(3, "f", aFile), api.ErrNodeKind)
	for _, path := range []uint64{0, 4, 5, 1 << 32, 1<<64 - 1} {
		p.wantRefused(t, making(path, "new", aFile), api.ErrNodeNone)
	}
	p.wantDo(t, making(2, "f", aFile), 4)
	p.wantRefused(t, making(1, "new", aFile), api.ErrNodeFull)
	p.wantRefused(t, making(1, "", aFile), api.ErrName)
	p.wantRefused(t, making(2, "f", aFile), api.ErrNodeTwice)
	p.wantRefused(t, bad(2, func(n *api.Node) { n.Mode = 512 }), api.ErrArg)
	p.wantSame(t)
}

func badNames() []string {
	return []string{"", ".", "..", "/", "a/", "/a", "a/b", "\x00", "a\x00", "\xff", "a\xc3", "\xed\xa0\x80", strings.Repeat("x", 256), strings.Repeat("é", 128), strings.Repeat("x", 70000)}
}

func goodNames() []string {
	return []string{"a", "A", "...", " ", "\n", "\\", "é", "😀", "\ufffd", "..a", strings.Repeat("x", 254), strings.Repeat("x", 255), strings.Repeat("é", 127)}
}

// Names that may be, of files and of directories: each child is found by its own.
func TestNames(t *testing.T) {
	p := newPair(t, 100)
	for i, name := range goodNames() {
		p.wantDo(t, making(1, name, aDir*uint32(i%2)), uint64(i)+2)
	}
	p.wantSame(t)
	for i, name := range goodNames() {
		p.wantRefused(t, making(1, name, aFile), api.ErrNodeTwice)
		p.wantDo(t, naming(uint64(i)+2, "x"+strconv.Itoa(i)), uint64(i)+2)
	}
	for i, name := range goodNames() {
		p.wantDo(t, naming(uint64(i)+2, name), uint64(i)+2)
	}
	p.wantSame(t)
}

// As many nodes as may be, and no more; where one is dropped there is room again.
func TestFull(t *testing.T) {
	for _, most := range []int{1, 2, 3, 50} {
		p := newPair(t, most)
		for i := 1; i < most; i++ {
			p.wantDo(t, making(uint64(i), "a", aDir), uint64(i)+1)
		}
		for i := range 3 {
			p.wantRefused(t, making(1, "new", aFile), api.ErrNodeFull)
			if p.s.Count() != most {
				t.Errorf("Count %d of %d", p.s.Count(), most)
			}
			if next := p.s.Next(); most > 1 {
				p.wantDo(t, dropping(next-1), next-1)
				p.wantDo(t, making(1, "b"+strconv.Itoa(i), aFile), next)
				p.wantDo(t, dropping(next), next)
				p.wantDo(t, making(uint64(most)-1, "c", aDir), next+1)
			}
		}
		p.wantSame(t)
	}
}

// The greatest tree that may be: all in one directory, and each in the last one.
func TestGreatest(t *testing.T) {
	rnd := rand.New(rand.NewSource(1))
	for _, deep := range []bool{false, true} {
		s := newStore(t, 4096)
		for i := uint64(1); i < 4096; i++ {
			dir := uint64(1)
			if deep {
				dir = i
			}
			if path, e := s.Do(making(dir, "n"+strconv.FormatUint(i, 10), aDir)); path != i+1 || e != api.OK {
				t.Fatalf("%d: %d, %d", i, path, e)
			}
		}
		if _, e := s.Do(making(1, "more", aFile)); e != api.ErrNodeFull || s.Count() != 4096 || s.Next() != 4097 {
			t.Errorf("of 4096 nodes: %d, Count %d, Next %d", e, s.Count(), s.Next())
		}
		if root, _ := s.Node(1); deep && root.Kids != 1 || !deep && root.Kids != 4095 {
			t.Errorf("the root has %d children", root.Kids)
		}
		order := rnd.Perm(4095)
		for i, n := range order {
			if deep {
				n = 4094 - i
			}
			if path, e := s.Do(dropping(uint64(n) + 2)); path != uint64(n)+2 || e != api.OK {
				t.Fatalf("drop %d: %d, %d", n+2, path, e)
			}
		}
		if root, _ := s.Node(1); root.Kids != 0 || s.Count() != 1 || s.Next() != 4097 {
			t.Errorf("behind all drops: Kids %d, Count %d, Next %d", root.Kids, s.Count(), s.Next())
		}
	}
}

func TestDrop(t *testing.T) {
	p := newPair(t, 20)
	p.wantRefused(t, dropping(1), api.ErrNodeKind)
	p.wantDo(t, making(1, "a", aDir), 2)
	p.wantRefused(t, dropping(1), api.ErrNodeKind) // it has children, too
	p.wantDo(t, making(2, "b", aDir), 3)
	p.wantDo(t, making(2, "c", aFile), 4)
	p.wantRefused(t, dropping(2), api.ErrNodeKids)
	p.wantDo(t, dropping(3), 3)
	p.wantRefused(t, dropping(2), api.ErrNodeKids)
	p.wantDo(t, api.Op{Kind: api.OpOpens, Path: 4, N: 5}, 4)
	p.wantDo(t, dropping(4), 4) // whatever its Opens
	p.wantRefused(t, dropping(4), api.ErrNodeNone)
	p.wantRefused(t, dropping(3), api.ErrNodeNone)
	p.wantDo(t, dropping(2), 2)
	for _, path := range []uint64{0, 2, 5, 1<<64 - 1} {
		p.wantRefused(t, dropping(path), api.ErrNodeNone)
	}
	p.wantSame(t)
	// A node of a name that was there is another one, and knows nothing of the old one.
	p.wantDo(t, making(1, "f", aFile), 5)
	p.wantDo(t, api.Op{Kind: api.OpBytes, Path: 5, Data: []byte("old")}, 5)
	p.wantDo(t, dropping(5), 5)
	p.wantDo(t, making(1, "f", aFile), 6)
	p.wantSame(t)
	if b := p.s.Read(6, 0, 9); len(b) > 0 {
		t.Errorf("a new file has %q", b)
	}
}

// What is dropped is gone for every operation and every look.
func TestDropped(t *testing.T) {
	p := newPair(t, 20)
	p.wantDo(t, making(1, "a", aDir), 2)
	p.wantDo(t, dropping(2), 2)
	for kind := range api.OpKind(10) {
		want := api.ErrNodeNone
		if kind < api.OpMake || kind > api.OpOpens {
			want = api.ErrArg
		}
		p.wantRefused(t, api.Op{Kind: kind, Path: 2}, want)
	}
	p.wantSame(t)
}

func TestName(t *testing.T) {
	p := newPair(t, 20)
	p.wantDo(t, making(1, "a", aDir), 2)
	p.wantDo(t, making(1, "b", aFile), 3)
	p.wantDo(t, making(2, "c", aFile), 4)
	p.wantRefused(t, naming(1, "x"), api.ErrNodeKind)
	p.wantRefused(t, naming(1, ".."), api.ErrNodeKind)
	for _, name := range badNames() {
		p.wantRefused(t, naming(3, name), api.ErrName)
		p.wantRefused(t, naming(9, name), api.ErrNodeNone)
	}
	p.wantRefused(t, naming(3, "a"), api.ErrNodeTwice)
	p.wantRefused(t, naming(2, "b"), api.ErrNodeTwice)
	p.wantDo(t, naming(3, "b"), 3) // as it is called
	p.wantSame(t)
	p.wantDo(t, naming(3, "c"), 3) // as one is called elsewhere
	p.wantSame(t)
	p.wantDo(t, naming(2, "b"), 2) // as one was called
	p.wantSame(t)
	p.wantDo(t, naming(3, "a"), 3)
	p.wantSame(t)
	if c, ok := p.s.Child(2, "c"); c != 4 || !ok {
		t.Errorf("the directory's own child: %d", c)
	}
	p.wantDo(t, making(1, "c", aFile), 5)
	p.wantDo(t, dropping(3), 3)
	p.wantDo(t, naming(5, "a"), 5)
	p.wantSame(t)
}

// An operation of no kind is refused ahead of all, whatever else is in it.
func TestNoKind(t *testing.T) {
	p := newPair(t, 20)
	p.wantDo(t, making(1, "a", aFile), 2)
	for kind := range 256 {
		if kind >= 1 && kind <= 7 {
			continue
		}
		for _, path := range []uint64{0, 1, 2, 3, 1<<64 - 1} {
			p.wantRefused(t, api.Op{Kind: api.OpKind(kind), Path: path, Name: "b", Mask: 64, Node: api.Node{Name: "b"}, Data: []byte("x"), N: 1}, api.ErrArg)
		}
	}
	if p.s.Next() != 3 {
		t.Errorf("Next %d", p.s.Next())
	}
}
