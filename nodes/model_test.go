package nodes_test

import (
	"fmt"
	"math/big"
	"math/rand"
	"reflect"
	"slices"
	"strings"
	"testing"
	"unicode/utf8"

	"verger/api"
	"verger/nodes"
)

// The model: what the chapter says, in other words than the package's, to hold the package against. A tree is a list of files in the order in which they were made, each with all of its bytes; whatever is asked is looked for in it.

type file struct {
	is   api.Node // but for Length and Kids
	data []byte
}

type model struct {
	most int
	next uint64
	list []file
}

const (
	dirBit   = 0x80000000
	modeBits = 0xe40001ff
)

func isText(s string) bool { return utf8.ValidString(s) && !strings.Contains(s, "\x00") }

func isUser(s string) bool { return isText(s) && len(s) < 33 }

func isName(s string) bool {
	return isText(s) && len(s) < 256 && s != "" && s != "." && s != ".." && !strings.Contains(s, "/")
}

func isMode(mode uint32) bool { return mode|modeBits == modeBits }

// newModel is a tree of the root alone, and whether a configuration is one.
func newModel(c api.Config) (*model, bool) {
	if c.Nodes <= 0 || c.Nodes > 4096 || c.Perm > 0777 || c.Owner == "" || c.Group == "" || !isUser(c.Owner) || !isUser(c.Group) {
		return nil, false
	}
	root := api.Node{Path: 1, Parent: 1, Name: "/", Mode: dirBit + c.Perm, Uid: c.Owner, Gid: c.Group, Muid: c.Owner}
	return &model{most: c.Nodes, next: 2, list: []file{{is: root}}}, true
}

func (m *model) clone() *model {
	c := &model{most: m.most, next: m.next}
	for _, f := range m.list {
		c.list = append(c.list, file{f.is, slices.Clone(f.data)})
	}
	return c
}

func (m *model) find(path uint64) *file {
	for i := range m.list {
		if m.list[i].is.Path == path {
			return &m.list[i]
		}
	}
	return nil
}

func (m *model) node(path uint64) (api.Node, bool) {
	f := m.find(path)
	if f == nil {
		return api.Node{}, false
	}
	is := f.is
	is.Length = uint64(len(f.data))
	is.Kids = len(m.kids(path))
	return is, true
}

// kids are the paths of a directory's children.
func (m *model) kids(path uint64) []uint64 {
	var l []uint64
	for _, f := range m.list {
		if f.is.Parent == path && f.is.Path != 1 {
			l = append(l, f.is.Path)
		}
	}
	return l
}

func (m *model) child(path uint64, name string) (uint64, bool) {
	for _, kid := range m.kids(path) {
		if m.find(kid).is.Name == name {
			return kid, true
		}
	}
	return 0, false
}

func (m *model) after(path, last uint64) (uint64, bool) {
	for _, kid := range m.kids(path) {
		if kid > last {
			return kid, true
		}
	}
	return 0, false
}

func (m *model) nodeAfter(last uint64) (api.Node, bool) {
	for _, f := range m.list {
		if f.is.Path > last {
			return m.node(f.is.Path)
		}
	}
	return api.Node{}, false
}

func (m *model) read(path, offset uint64, n int) string {
	f := m.find(path)
	if f == nil || n <= 0 || offset >= uint64(len(f.data)) {
		return ""
	}
	rest := f.data[offset:]
	return string(rest[:min(n, len(rest))])
}

// fault is a reason for which an operation is refused, if it is.
type fault struct {
	is  bool
	err api.Errno
}

// faults are the reasons of an operation's row, in their order; of those that stand ahead of all rows there are none.
func (m *model) faults(o api.Op, n api.Node) []fault {
	isRoot, isFile, size := o.Path == 1, n.Mode < dirBit, len(o.Data)
	badUsers := func(mask api.Mask) bool {
		return mask&api.MaskUid > 0 && !isUser(o.Node.Uid) || mask&api.MaskGid > 0 && !isUser(o.Node.Gid) || mask&api.MaskMuid > 0 && !isUser(o.Node.Muid)
	}
	namesMode := o.Mask&api.MaskMode > 0
	switch o.Kind {
	case api.OpMake:
		_, taken := m.child(o.Path, o.Node.Name)
		return []fault{{isFile, api.ErrNodeKind}, {!isMode(o.Node.Mode) || badUsers(255), api.ErrArg}, {!isName(o.Node.Name), api.ErrName}, {taken, api.ErrNodeTwice}, {len(m.list) == m.most, api.ErrNodeFull}}
	case api.OpDrop:
		return []fault{{isRoot, api.ErrNodeKind}, {n.Kids > 0, api.ErrNodeKids}}
	case api.OpName:
		who, taken := m.child(n.Parent, o.Name)
		return []fault{{isRoot, api.ErrNodeKind}, {!isName(o.Name), api.ErrName}, {taken && who != o.Path, api.ErrNodeTwice}}
	case api.OpSet:
		return []fault{{o.Mask > 127 || namesMode && !isMode(o.Node.Mode) || badUsers(o.Mask), api.ErrArg}, {namesMode && isFile != (o.Node.Mode < dirBit), api.ErrNodeKind}}
	case api.OpCut:
		return []fault{{!isFile, api.ErrNodeKind}, {o.Offset > 65536, api.ErrNodeBig}}
	case api.OpBytes:
		end := new(big.Int).Add(new(big.Int).SetUint64(o.Offset), big.NewInt(int64(size)))
		return []fault{{!isFile, api.ErrNodeKind}, {size == 0 || size > 256-int(o.Offset%256), api.ErrNodeBlock}, {end.Cmp(big.NewInt(65536)) > 0, api.ErrNodeBig}}
	}
	opens := new(big.Int).Add(big.NewInt(int64(n.Opens)), big.NewInt(int64(o.N)))
	return []fault{{opens.Sign() < 0 || opens.Cmp(big.NewInt(2147483647)) > 0, api.ErrNodeOpens}}
}

func (m *model) do(o api.Op) (uint64, api.Errno) {
	n, is := m.node(o.Path)
	if o.Kind == 0 || o.Kind > 7 {
		return 0, api.ErrArg
	}
	if !is {
		return 0, api.ErrNodeNone
	}
	for _, f := range m.faults(o, n) {
		if f.is {
			return 0, f.err
		}
	}
	return m.done(o), api.OK
}

// done does an operation that is not refused.
func (m *model) done(o api.Op) uint64 {
	f := m.find(o.Path)
	switch o.Kind {
	case api.OpMake:
		n := o.Node
		m.list = append(m.list, file{is: api.Node{Path: m.next, Parent: o.Path, Name: n.Name, Mode: n.Mode, Uid: n.Uid, Gid: n.Gid, Muid: n.Muid, Atime: n.Atime, Mtime: n.Mtime}})
		m.next++
		return m.next - 1
	case api.OpDrop:
		m.list = slices.DeleteFunc(m.list, func(f file) bool { return f.is.Path == o.Path })
	case api.OpName:
		f.is.Name = o.Name
	case api.OpSet:
		f.is = setTo(f.is, o.Mask, o.Node)
	case api.OpCut:
		f.data = resized(f.data, int(o.Offset))
	case api.OpBytes:
		f.data = resized(f.data, max(len(f.data), int(o.Offset)+len(o.Data)))
		copy(f.data[o.Offset:], o.Data)
	case api.OpOpens:
		f.is.Opens += o.N
	}
	return o.Path
}

// setTo is a node with what a mask names as in another one.
func setTo(n api.Node, mask api.Mask, to api.Node) api.Node {
	for bit, set := range []func(){
		func() { n.Mode = to.Mode }, func() { n.Uid = to.Uid }, func() { n.Gid = to.Gid }, func() { n.Muid = to.Muid },
		func() { n.Atime = to.Atime }, func() { n.Mtime = to.Mtime }, func() { n.Vers = uint32((uint64(n.Vers) + 1) % (1 << 32)) },
	} {
		if mask>>bit&1 == 1 {
			set()
		}
	}
	return n
}

func resized(b []byte, size int) []byte {
	return append(slices.Clone(b), make([]byte, size)...)[:size:size]
}

// all is what there is of a tree: each node, and its bytes.
type all struct {
	next  uint64
	nodes []api.Node
	data  []string
}

func (m *model) all() all {
	a := all{next: m.next}
	for _, f := range m.list {
		n, _ := m.node(f.is.Path)
		a.nodes, a.data = append(a.nodes, n), append(a.data, string(f.data))
	}
	return a
}

// allOf is the same of a store.
func allOf(s *nodes.Store) all {
	a := all{next: s.Next()}
	for n := range s.All() {
		a.nodes, a.data = append(a.nodes, n), append(a.data, string(s.Read(n.Path, 0, 1<<20)))
	}
	return a
}

func (a all) String() string {
	s := fmt.Sprintf("next %d\n", a.next)
	for i, n := range a.nodes {
		s += fmt.Sprintf("%+v %.40q\n", n, a.data[i])
	}
	return s
}

func wantAll(t *testing.T, got, want all) {
	t.Helper()
	if !reflect.DeepEqual(got, want) {
		t.Fatalf("there is\n%vwant\n%v", got, want)
	}
}

// pair is a store and its model.
type pair struct {
	s *nodes.Store
	m *model
}

func config(most int) api.Config {
	return api.Config{Nodes: most, Perm: 0755, Owner: "ann", Group: "staff"}
}

func newPair(t *testing.T, most int) pair {
	t.Helper()
	m, _ := newModel(config(most))
	return pair{newStore(t, most), m}
}

func newStore(t *testing.T, most int) *nodes.Store {
	t.Helper()
	s, e := nodes.New(config(most))
	if s == nil || e != api.OK {
		t.Fatalf("New: %v, %d", s, e)
	}
	return s
}

// do does an operation to both.
func (p pair) do(t *testing.T, o api.Op) (uint64, api.Errno) {
	t.Helper()
	was := p.m.clone()
	want, wantErr := p.m.do(o)
	got, e := p.s.Do(o)
	if got != want || e != wantErr {
		t.Fatalf("Do(%s): %d, %d; want %d, %d; there was\n%v", opText(o), got, e, want, wantErr, was.all())
	}
	return got, e
}

func opText(o api.Op) string {
	data := o.Data
	o.Data = nil
	return fmt.Sprintf("%.700s and %d bytes %.20q", fmt.Sprintf("%#v", o), len(data), data)
}

// wantSame holds all that a store tells to its model.
func (p pair) wantSame(t *testing.T) {
	t.Helper()
	wantAll(t, allOf(p.s), p.m.all())
	if n := p.s.Count(); n != len(p.m.list) {
		t.Fatalf("Count: %d, want %d", n, len(p.m.list))
	}
	names := []string{"", ".", "..", "/", "\xff"}
	for _, f := range p.m.list {
		names = append(names, f.is.Name)
	}
	for path := range p.m.next + 2 {
		p.wantNode(t, path)
		for _, name := range names {
			p.wantChild(t, path, name)
		}
		for last := range p.m.next + 2 {
			p.wantAfter(t, path, last)
		}
		p.wantAfter(t, path, 1<<64-1)
	}
}

func (p pair) wantNode(t *testing.T, path uint64) {
	t.Helper()
	want, is := p.m.node(path)
	if n, ok := p.s.Node(path); n != want || ok != is {
		t.Fatalf("Node(%d): %+v, %v; want %+v, %v", path, n, ok, want, is)
	}
}

func (p pair) wantChild(t *testing.T, path uint64, name string) {
	t.Helper()
	want, is := p.m.child(path, name)
	if n, ok := p.s.Child(path, name); n != want || ok != is {
		t.Fatalf("Child(%d, %q): %d, %v; want %d, %v", path, name, n, ok, want, is)
	}
}

func (p pair) wantAfter(t *testing.T, path, last uint64) {
	t.Helper()
	want, is := p.m.after(path, last)
	if n, ok := p.s.After(path, last); n != want || ok != is {
		t.Fatalf("After(%d, %d): %d, %v; want %d, %v", path, last, n, ok, want, is)
	}
}

func (p pair) wantRead(t *testing.T, path, offset uint64, n int) {
	t.Helper()
	want := p.m.read(path, offset, n)
	if b := p.s.Read(path, offset, n); string(b) != want {
		t.Fatalf("Read(%d, %d, %d): %d bytes %.40q; want %d, %.40q", path, offset, n, len(b), b, len(want), want)
	}
}

func oneOf[T any](rnd *rand.Rand, l ...T) T { return l[rnd.Intn(len(l))] }

func someName(rnd *rand.Rand) string {
	if rnd.Intn(6) == 0 {
		return oneOf(rnd, "", ".", "..", "/", "a/b", "\xff", "a\x00", strings.Repeat("x", 255), strings.Repeat("x", 256))
	}
	return oneOf(rnd, "a", "b", "c", "d", "e", "f", "g", "é", "...", " ")
}

func someUser(rnd *rand.Rand) string {
	if rnd.Intn(12) == 0 {
		return oneOf(rnd, "\xff", "a\x00", strings.Repeat("x", 33), strings.Repeat("é", 17))
	}
	return oneOf(rnd, "ann", "bob", "", "staff", "a/b:", strings.Repeat("x", 32))
}

func someMode(rnd *rand.Rand) uint32 {
	if rnd.Intn(8) == 0 {
		return 1 << rnd.Intn(32)
	}
	return rnd.Uint32() & modeBits & oneOf[uint32](rnd, 0xffffffff, 0x7fffffff, 0x800001ff)
}

func someNode(rnd *rand.Rand) api.Node {
	return api.Node{Path: rnd.Uint64(), Parent: rnd.Uint64(), Name: someName(rnd), Mode: someMode(rnd), Uid: someUser(rnd), Gid: someUser(rnd), Muid: someUser(rnd),
		Atime: rnd.Uint32(), Mtime: rnd.Uint32(), Vers: rnd.Uint32(), Length: rnd.Uint64(), Opens: rnd.Int(), Kids: rnd.Int()}
}

func someOffset(rnd *rand.Rand) uint64 {
	near := uint64(rnd.Intn(5)) - 2
	switch rnd.Intn(10) {
	case 0:
		return rnd.Uint64()
	case 1:
		return 65536 + near
	case 2:
		return uint64(rnd.Intn(65540))
	case 3:
		return near
	}
	return uint64(rnd.Intn(5))*256 + oneOf(rnd, near, 128+near, uint64(rnd.Intn(256)))
}

func someData(rnd *rand.Rand, offset uint64) []byte {
	size := rnd.Intn(260)
	if rnd.Intn(4) > 0 {
		size = 1 + rnd.Intn(256-int(offset%256))
	}
	b := make([]byte, size)
	rnd.Read(b)
	return b
}

func someMask(rnd *rand.Rand) api.Mask {
	if rnd.Intn(10) == 0 {
		return api.Mask(rnd.Intn(256))
	}
	return api.Mask(rnd.Intn(128) & rnd.Intn(128))
}

// somePath is a path that there is, mostly.
func (m *model) somePath(rnd *rand.Rand) uint64 {
	switch rnd.Intn(12) {
	case 0:
		return uint64(rnd.Intn(int(m.next) + 2))
	case 1:
		return oneOf(rnd, rnd.Uint64(), 1<<64-1, 0, 1)
	}
	return m.list[rnd.Intn(len(m.list))].is.Path
}

// someOp is an operation in whose fields stands whatever may stand there, also in those that are not to be looked at.
func (m *model) someOp(rnd *rand.Rand) api.Op {
	o := api.Op{Kind: oneOf(rnd, api.OpMake, api.OpMake, api.OpMake, api.OpDrop, api.OpName, api.OpSet, api.OpCut, api.OpBytes, api.OpBytes, api.OpBytes, api.OpOpens),
		Path: m.somePath(rnd), Name: someName(rnd), Mask: someMask(rnd), Node: someNode(rnd), Offset: someOffset(rnd)}
	o.Data = someData(rnd, o.Offset)
	o.N = oneOf(rnd, -1, 1, 2, rnd.Intn(100)-50, 2147483647, 2147483646, -2147483647, rnd.Int(), -rnd.Int())
	if rnd.Intn(50) == 0 {
		o.Kind = api.OpKind(rnd.Intn(256))
	}
	return o
}

// grown is a pair to which some operations were done.
func grown(t *testing.T, rnd *rand.Rand, most, ops int) pair {
	t.Helper()
	p := newPair(t, most)
	for range ops {
		p.do(t, p.m.someOp(rnd))
	}
	return p
}
