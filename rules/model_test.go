package rules_test

import (
	"fmt"
	"math"
	"math/rand"
	"strings"
	"testing"
	"unicode/utf8"

	"verger/api"
	"verger/rules"
	"verger/users"
)

// The model: what the chapter says, in other words than the package's, to hold the package against. Who there is stands in plain lists; a call is the reasons for which it is refused, each with its error, one below the other.

type group struct {
	name, leader string
	members      []string
}

// people are those of the chapter's examples, and some more: a group without anybody else, one whose leader belongs to it, too, one that is led by a group.
func people() []group {
	return []group{
		{"glenda", "", nil}, {"sys", "glenda", []string{"bob"}}, {"bob", "", nil}, {"eve", "", nil},
		{"adm", "", []string{"bob", "eve"}}, {"led", "eve", []string{"eve", "glenda"}}, {"none", "sys", nil},
	}
}

func newTable(t *testing.T, l []group) *users.Table {
	t.Helper()
	var text strings.Builder
	for _, g := range l {
		text.WriteString(g.name + ":" + g.leader + ":" + strings.Join(g.members, ",") + ":\n")
	}
	u, e, line := users.Parse(text.String())
	if e != api.OK {
		t.Fatalf("Parse: %d in line %d", e, line)
	}
	return u
}

// model is who there is, and who asks.
type model struct {
	l    []group
	user string
}

func (m model) find(name string) (group, bool) {
	for _, g := range m.l {
		if g.name == name {
			return g, true
		}
	}
	return group{}, false
}

func (m model) member(name string) bool {
	g, known := m.find(name)
	if !known {
		return false
	}
	for _, member := range append([]string{name}, g.members...) {
		if member == m.user {
			return true
		}
	}
	return false
}

func (m model) leads(name string) bool {
	g, known := m.find(name)
	switch {
	case !known:
		return false
	case g.leader == "":
		return m.member(name)
	default:
		return g.leader == m.user
	}
}

func (m model) rights(n api.Node) uint8 {
	owner, group, all := n.Mode/0100%010, n.Mode/010%010, n.Mode%010
	is := all
	if m.user == n.Uid {
		is |= owner
	}
	if m.member(n.Gid) {
		is |= group
	}
	return uint8(is)
}

func (m model) has(n api.Node, right uint8) bool { return m.rights(n)&right == right }

func (m model) mayWrite(n api.Node) bool { return m.has(n, 2) }

const (
	dirBit    = 0x80000000
	appendBit = 0x40000000
	exclBit   = 0x20000000
	authBit   = 0x08000000
	tmpBit    = 0x04000000
)

func is(n api.Node, bit uint32) bool { return n.Mode&bit == bit }

// reason is why something is refused, if that is so.
type reason struct {
	is  bool
	why api.Errno
}

func first(l ...reason) api.Errno {
	for _, r := range l {
		if r.is {
			return r.why
		}
	}
	return api.OK
}

func badName(name string) bool {
	return name == "" || name == "." || name == ".." || len(name) > 255 || strings.ContainsAny(name, "/\x00") || !utf8.ValidString(name)
}

// wants is a row of the rights for each mode that may be; -1 for the others.
func wants(mode uint8) int {
	switch mode {
	case 0x00, 0x40:
		return 4
	case 0x01, 0x41, 0x11, 0x51:
		return 2
	case 0x02, 0x42, 0x10, 0x50, 0x12, 0x52:
		return 6
	case 0x03, 0x43:
		return 1
	case 0x13, 0x53:
		return 3
	}
	return -1
}

func badPerm(perm uint32) bool {
	kind, others := perm>>24, perm&0x00ffffff
	dir, file := kind == 0x80 || kind == 0x84, kind == kind&0x64
	return others > 0777 || !dir && !file
}

func (m model) step(dir api.Node) api.Errno {
	return first(reason{!is(dir, dirBit), 93}, reason{!m.has(dir, 1), 90})
}

func (m model) open(f api.Facts, mode uint8) api.Errno {
	w := wants(mode)
	return first(
		reason{w < 0, 91},
		reason{is(f.Node, dirBit) && mode != 0, 92},
		reason{!m.has(f.Node, uint8(w)), 90},
		reason{mode >= 0x40 && !m.mayWrite(f.Parent), 90},
		reason{is(f.Node, exclBit) && f.Node.Opens >= 1, 94},
	)
}

func (m model) create(f api.Facts, name string, perm uint32, mode uint8) (api.Node, api.Errno) {
	if e := first(
		reason{!is(f.Node, dirBit), 93},
		reason{badName(name), 50},
		reason{badPerm(perm), 91},
		reason{wants(mode) < 0, 91},
		reason{perm >= dirBit && mode != 0, 92},
		reason{!m.mayWrite(f.Node), 90},
		reason{f.Taken, 95},
		reason{f.Full, 83},
	); e != 0 {
		return api.Node{}, e
	}
	made := perm - perm%01000
	for bit := range 9 {
		right := uint32(1) << bit
		exec := bit%3 == 0
		if perm&right > 0 && (f.Node.Mode&right > 0 || exec && perm < dirBit) {
			made += right
		}
	}
	return api.Node{Parent: f.Node.Path, Name: name, Uid: m.user, Muid: m.user, Gid: f.Node.Gid, Mode: made}, 0
}

func (m model) remove(f api.Facts) api.Errno {
	return first(reason{f.Node.Path == 1, 90}, reason{!m.mayWrite(f.Parent), 90}, reason{is(f.Node, dirBit) && f.Node.Kids >= 1, 96})
}

func record(n api.Node) api.Stat {
	s := api.Stat{Mode: n.Mode, Atime: n.Atime, Mtime: n.Mtime, Name: n.Name, Uid: n.Uid, Gid: n.Gid, Muid: n.Muid}
	s.Qid.Kind, s.Qid.Vers, s.Qid.Path = uint8(n.Mode/(1<<24)), n.Vers, n.Path
	if n.Mode < dirBit {
		s.Length = n.Length
	}
	return s
}

// touches tells whether a field is asked to be another one.
func touches[V comparable](want, keep, have V) bool { return want != keep && want != have }

func (m model) wstat(f api.Facts, want api.Stat) (api.Node, api.Errno) {
	n, have := f.Node, record(f.Node)
	var fixed api.Errno = 97
	whys := m.wstatWhys(f, want)
	made, e := n, first(
		reason{touches(want.Type, math.MaxUint16, have.Type), fixed},
		reason{touches(want.Dev, math.MaxUint32, have.Dev), fixed},
		reason{touches(want.Qid.Kind, 255, have.Qid.Kind), fixed},
		reason{touches(want.Qid.Vers, math.MaxUint32, have.Qid.Vers), fixed},
		reason{touches(want.Qid.Path, math.MaxUint64, have.Qid.Path), fixed},
		reason{touches(want.Mode, math.MaxUint32, have.Mode) && whys[0] != 0, whys[0]},
		reason{touches(want.Atime, math.MaxUint32, have.Atime), fixed},
		reason{touches(want.Mtime, math.MaxUint32, have.Mtime) && whys[1] != 0, whys[1]},
		reason{touches(want.Length, math.MaxUint64, have.Length) && whys[2] != 0, whys[2]},
		reason{touches(want.Name, "", have.Name) && whys[3] != 0, whys[3]},
		reason{touches(want.Uid, "", have.Uid), fixed},
		reason{touches(want.Gid, "", have.Gid) && whys[4] != 0, whys[4]},
		reason{touches(want.Muid, "", have.Muid), fixed},
	)
	if e != 0 {
		return api.Node{}, e
	}
	if want.Mode != math.MaxUint32 {
		made.Mode = want.Mode
	}
	if want.Mtime != math.MaxUint32 {
		made.Mtime = want.Mtime
	}
	if want.Length != math.MaxUint64 && n.Mode < dirBit {
		made.Length = want.Length
	}
	if want.Name != "" {
		made.Name = want.Name
	}
	if want.Gid != "" {
		made.Gid = want.Gid
	}
	return made, 0
}

// wstatWhys are why the mode, the mtime, the length, the name and the group may not be changed so.
func (m model) wstatWhys(f api.Facts, want api.Stat) [5]api.Errno {
	n := f.Node
	_, known := m.find(want.Gid)
	governs := n.Uid == m.user || m.leads(n.Gid)
	owns, leads := n.Uid == m.user && m.member(want.Gid), m.leads(n.Gid) && m.leads(want.Gid)
	return [5]api.Errno{
		first(reason{!governs, 90}, reason{badPerm(want.Mode), 91}, reason{is(n, dirBit) != (want.Mode >= dirBit), 91}),
		first(reason{!governs, 90}),
		first(reason{is(n, dirBit), 92}, reason{!m.mayWrite(n), 90}, reason{want.Length > 65536, 98}, reason{is(n, appendBit) && want.Length < n.Length, 97}),
		first(reason{badName(want.Name), 50}, reason{n.Path == 1, 90}, reason{!m.mayWrite(f.Parent), 90}, reason{f.Taken, 95}),
		first(reason{!known, 99}, reason{!owns && !leads, 90}),
	}
}

// shown is a node, facts or a record as a line, however long its texts are, and whatever bytes they have.
func shown(v any) string {
	text := fmt.Sprintf("%+v", v)
	return strings.ToValidUTF8(text[:min(len(text), 1000)], "?")
}

// court is a table and its model: each call is asked of both.
type court struct {
	u *users.Table
	l []group
}

func newCourt(t *testing.T) court {
	t.Helper()
	return court{newTable(t, people()), people()}
}

func (c court) rights(t *testing.T, user string, n api.Node) uint8 {
	t.Helper()
	got := rules.Rights(c.u, user, n)
	if want := (model{c.l, user}).rights(n); got != want {
		t.Fatalf("Rights(%.60q, %s): %d, want %d", user, shown(n), got, want)
	}
	return got
}

func (c court) step(t *testing.T, user string, dir api.Node) api.Errno {
	t.Helper()
	e := rules.Step(c.u, user, dir)
	if want := (model{c.l, user}).step(dir); e != want {
		t.Fatalf("Step(%.60q, %s): %d, want %d", user, shown(dir), e, want)
	}
	return e
}

func (c court) open(t *testing.T, user string, f api.Facts, mode uint8) api.Errno {
	t.Helper()
	e := rules.Open(c.u, user, f, mode)
	if want := (model{c.l, user}).open(f, mode); e != want {
		t.Fatalf("Open(%.60q, %s, %x): %d, want %d", user, shown(f), mode, e, want)
	}
	return e
}

func (c court) create(t *testing.T, user string, f api.Facts, name string, perm uint32, mode uint8) (api.Node, api.Errno) {
	t.Helper()
	n, e := rules.Create(c.u, user, f, name, perm, mode)
	if want, wantErr := (model{c.l, user}).create(f, name, perm, mode); n != want || e != wantErr {
		t.Fatalf("Create(%.60q, %s, %.60q, %x, %x): %s, %d; want %s, %d", user, shown(f), name, perm, mode, shown(n), e, shown(want), wantErr)
	}
	return n, e
}

func (c court) remove(t *testing.T, user string, f api.Facts) api.Errno {
	t.Helper()
	e := rules.Remove(c.u, user, f)
	if want := (model{c.l, user}).remove(f); e != want {
		t.Fatalf("Remove(%.60q, %s): %d, want %d", user, shown(f), e, want)
	}
	if closes := rules.Closes(c.u, user, f); closes != (e == api.OK) {
		t.Fatalf("Closes(%.60q, %s): %v; Remove: %d", user, shown(f), closes, e)
	}
	return e
}

func (c court) wstat(t *testing.T, user string, f api.Facts, want api.Stat) (api.Node, api.Errno) {
	t.Helper()
	n, e := rules.Wstat(c.u, user, f, want)
	if is, isErr := (model{c.l, user}).wstat(f, want); n != is || e != isErr {
		t.Fatalf("Wstat(%.60q, %s, %s): %s, %d; want %s, %d", user, shown(f), shown(want), shown(n), e, shown(is), isErr)
	}
	return n, e
}

// oneOf is one of a list.
func oneOf[V any](rnd *rand.Rand, l ...V) V { return l[rnd.Intn(len(l))] }

func someUser(rnd *rand.Rand) string {
	return oneOf(rnd, "glenda", "sys", "bob", "eve", "adm", "led", "none", "nobody", "")
}

func someName(rnd *rand.Rand) string {
	return oneOf(rnd, "a", "b", "/", "a/b", "", ".", "..", "...", "é", "\xff", "a\x00", strings.Repeat("x", 255), strings.Repeat("x", 256))
}

func someMode(rnd *rand.Rand) uint32 {
	kind := oneOf[uint32](rnd, 0, 0, dirBit, dirBit, appendBit, exclBit, tmpBit, dirBit|tmpBit, appendBit|exclBit, dirBit|exclBit, authBit, 0x200, rnd.Uint32()&^0777)
	return kind | oneOf[uint32](rnd, 0777, 0755, 0700, 0070, 0007, 0, rnd.Uint32()&0777, rnd.Uint32()&0777)
}

// someNode is a node that no store needs to have.
func someNode(rnd *rand.Rand) api.Node {
	return api.Node{
		Path: oneOf[uint64](rnd, 1, 2, 3, 0, math.MaxUint64), Parent: oneOf[uint64](rnd, 1, 2, 0), Name: someName(rnd), Mode: someMode(rnd),
		Uid: someUser(rnd), Gid: someUser(rnd), Muid: someUser(rnd), Atime: oneOf[uint32](rnd, 0, 5, math.MaxUint32), Mtime: oneOf[uint32](rnd, 0, 5, math.MaxUint32),
		Vers: oneOf[uint32](rnd, 0, 5, math.MaxUint32), Length: someLength(rnd), Opens: oneOf(rnd, 0, 0, 1, 2, -1, math.MinInt, math.MaxInt), Kids: oneOf(rnd, 0, 0, 1, 2, -1, math.MinInt, math.MaxInt),
	}
}

func someLength(rnd *rand.Rand) uint64 {
	return oneOf[uint64](rnd, 0, 1, 9, 10, 11, 65535, 65536, 65537, 70000, 1<<32, math.MaxUint64)
}

func someFacts(rnd *rand.Rand) api.Facts {
	return api.Facts{Node: someNode(rnd), Parent: someNode(rnd), Taken: rnd.Intn(4) == 0, Full: rnd.Intn(4) == 0}
}

func someOpening(rnd *rand.Rand) uint8 {
	return oneOf(rnd, 0, 1, 2, 3, 0x10, 0x11, 0x12, 0x13, 0x40, 0x42, 0x51, 0, uint8(rnd.Intn(256)))
}

// someWant is a change that touches none, one, or some of the fields of a node.
func someWant(rnd *rand.Rand, n api.Node) api.Stat {
	want := keep()
	if rnd.Intn(3) == 0 {
		want = record(n)
	}
	for range rnd.Intn(4) {
		oneOf(rnd,
			func() { want.Mode = someMode(rnd) }, func() { want.Mode = n.Mode ^ 1<<rnd.Intn(9) },
			func() { want.Mtime = oneOf[uint32](rnd, 0, 5, 6) },
			func() { want.Length = someLength(rnd) }, func() { want.Length = someLength(rnd) },
			func() { want.Name = someName(rnd) }, func() { want.Name = "new" },
			func() { want.Gid = someUser(rnd) }, func() { want.Gid = someUser(rnd) },
		)()
	}
	if rnd.Intn(6) > 0 {
		return want
	}
	oneOf(rnd,
		func() { want.Type = uint16(rnd.Intn(2)) }, func() { want.Dev = uint32(rnd.Intn(2)) },
		func() { want.Qid.Kind = oneOf[uint8](rnd, 0, 0x80, 1) }, func() { want.Qid.Vers = oneOf[uint32](rnd, 0, 5) }, func() { want.Qid.Path = oneOf[uint64](rnd, 0, 1, 2) },
		func() { want.Atime = oneOf[uint32](rnd, 0, 5) }, func() { want.Uid = someUser(rnd) }, func() { want.Muid = someUser(rnd) },
	)()
	return want
}

// keep is the record that touches nothing.
func keep() api.Stat {
	return api.Stat{
		Type: math.MaxUint16, Dev: math.MaxUint32, Qid: api.Qid{Kind: math.MaxUint8, Vers: math.MaxUint32, Path: math.MaxUint64},
		Mode: math.MaxUint32, Atime: math.MaxUint32, Mtime: math.MaxUint32, Length: math.MaxUint64,
	}
}
