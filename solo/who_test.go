package solo_test

import (
	"bytes"
	"fmt"
	"math/rand"
	"slices"
	"testing"

	"verger/api"
	"verger/auth"
	"verger/rules"
	"verger/solo"
	"verger/stat"
)

// T9: nobody is told a byte, a name or a record, and nobody changes one, that the rights and the users' table do not give them. Who they are that someConfig names, and what is theirs, is said here by hand.

func member(user, group string) bool {
	return user == group || group == "sys" && (user == "ann" || user == "eve")
}

func leads(user, group string) bool {
	return group == "sys" && user == "bob" || group != "sys" && user == group
}

func hasKey(user string) bool { return user == "eve" }

// rightsOf are the rights that a node gives a user.
func rightsOf(user string, n api.Node) uint32 {
	is := n.Mode % 8
	if member(user, n.Gid) {
		is |= n.Mode / 8 % 8
	}
	if user == n.Uid {
		is |= n.Mode / 64 % 8
	}
	return is
}

func may(user string, n api.Node, right uint32) bool { return rightsOf(user, n)&right == right }

func governs(user string, n api.Node) bool { return user == n.Uid || leads(user, n.Gid) }

// wants are the rights that are needed to open in a mode.
func wants(mode uint8) uint32 {
	want := []uint32{4, 2, 6, 1}[mode%4]
	if mode&0x10 > 0 {
		want |= 2
	}
	return want
}

// seen is a server as it was at some time.
type seen struct {
	nodes map[uint64]api.Node
	data  map[uint64]string
	fids  map[uint32]api.Fid // of the connection that asks
}

func seenOf(l looks, conn int) seen {
	s := seen{map[uint64]api.Node{}, map[uint64]string{}, map[uint32]api.Fid{}}
	for _, n := range l.Nodes() {
		s.nodes[n.Path], s.data[n.Path] = n, string(l.Content(n.Path))
	}
	for _, f := range l.Fids(conn) {
		s.fids[f.Num] = f.Fid
	}
	return s
}

func (s seen) parent(path uint64) api.Node { return s.nodes[s.nodes[path].Parent] }

func (s seen) child(path uint64, name string) uint64 {
	for _, n := range s.nodes {
		if n.Parent == path && n.Name == name && n.Path != 1 {
			return n.Path
		}
	}
	return 0
}

// place is a fid of a connection.
type place struct {
	conn int
	fid  uint32
}

// guard watches what is answered, and what changes.
type guard struct {
	opened map[place]uint32 // the rights that were given when a fid was opened
	given  map[string]int   // how often that was told or done
}

// exchange is a request, its reply, and how all was and is.
type exchange struct {
	conn    int
	q, r    api.Msg
	was, is seen
}

func (x exchange) by() api.Fid { return x.was.fids[x.q.Fid] }

// actors are the fids by which something is done: of a session that ends all.
func (x exchange) actors() []api.Fid {
	if x.q.Kind != api.Tversion {
		return []api.Fid{x.by()}
	}
	var l []api.Fid
	for _, f := range x.was.fids {
		l = append(l, f)
	}
	return l
}

// wantGiven asks that a reply tells no more than what is given.
func (g *guard) wantGiven(t *testing.T, x exchange) {
	t.Helper()
	f, n := x.by(), x.was.nodes[x.by().Node]
	at := place{x.conn, x.q.Fid}
	given := true
	switch x.r.Kind {
	case api.Rattach:
		shown := x.was.fids[x.q.Afid].Talk
		given = !hasKey(x.q.Uname) || shown.Step == api.TalkDone && shown.User == x.q.Uname
	case api.Rwalk:
		given = x.mayWalk()
	case api.Ropen:
		given = may(f.User, n, wants(x.q.Mode)) && (x.q.Mode&0x40 == 0 || may(f.User, x.was.parent(n.Path), 2))
		g.opened[at] = rightsOf(f.User, n)
	case api.Rcreate:
		made := x.is.nodes[x.r.Qid.Path]
		given = may(f.User, n, 2) && made.Uid == f.User && made.Mode&0666&^n.Mode == 0
		g.opened[at] = 7 // whoever makes a file has it open
	case api.Rread:
		given = f.State == api.FidAuth || g.opened[at]&5 > 0 && x.isOf(n)
	case api.Rwrite:
		given = f.State == api.FidAuth || g.opened[at]&2 > 0
	case api.Rstat:
		given = same(x.r.Stat, rules.Record(n))
	}
	if !given {
		failf(t, "%s: %s: by %+v, of %+v", shown(x.q), shown(x.r), f, n)
	}
	g.given[fmt.Sprint(x.r.Kind)]++
}

// mayWalk tells whether each name that was gone by may be looked up where it was, and leads where it is said that it does.
func (x exchange) mayWalk() bool {
	here := x.was.nodes[x.by().Node]
	for i, qid := range x.r.Qids {
		path := x.was.child(here.Path, x.q.Names[i])
		if x.q.Names[i] == ".." {
			path = here.Parent
		}
		if here.Mode < dirBit || !may(x.by().User, here, 1) || path != qid.Path {
			return false
		}
		here = x.was.nodes[path]
	}
	return true
}

// isOf tells whether what was read is that file's bytes, or records of that directory's children.
func (x exchange) isOf(n api.Node) bool {
	if n.Mode < dirBit {
		data := x.was.data[n.Path]
		from := min(x.q.Offset, uint64(len(data)))
		return string(x.r.Data) == data[from:][:min(len(x.r.Data), len(data)-int(from))]
	}
	l, e := stat.Records(x.r.Data)
	for _, s := range l {
		kid := x.was.nodes[s.Qid.Path]
		if kid.Parent != n.Path || kid.Path == 1 || !same(s, rules.Record(kid)) {
			return false
		}
	}
	return e == api.OK
}

// wantMay asks that nothing has changed but what whoever asked may change.
func (g *guard) wantMay(t *testing.T, x exchange) {
	t.Helper()
	for path, a := range x.was.nodes {
		b, there := x.is.nodes[path]
		x.wantFields(t, g, a, b, there)
	}
	for path, n := range x.is.nodes {
		if _, old := x.was.nodes[path]; !old && (x.r.Kind != api.Rcreate || n.Parent != x.by().Node || !may(x.by().User, x.was.nodes[n.Parent], 2)) {
			failf(t, "%s by %+v has made %+v", shown(x.q), x.by(), n)
		}
	}
}

// change is something of a node that has changed, and whether it may.
type change struct {
	what    string
	is, may bool
}

func (x exchange) wantFields(t *testing.T, g *guard, a, b api.Node, there bool) {
	t.Helper()
	f := x.by()
	here := f.Node == a.Path
	asks := here && x.r.Kind == api.Rwstat
	writes := here && (x.r.Kind == api.Rwrite && g.opened[place{x.conn, x.q.Fid}]&2 > 0 || (x.r.Kind == api.Ropen && x.q.Mode&0x10 > 0 || asks) && may(f.User, a, 2))
	turns := x.turnsKids(a)
	l := []change{{"is gone", !there, x.drops(a.Path)}}
	if there {
		l = []change{
			{"Path, Parent, Uid", a.Path != b.Path || a.Parent != b.Parent || a.Uid != b.Uid, false},
			{"bytes", x.was.data[a.Path] != x.is.data[a.Path] || a.Length != b.Length, writes},
			{"Name", a.Name != b.Name, asks && may(f.User, x.was.parent(a.Path), 2)},
			{"Mode", a.Mode != b.Mode, asks && governs(f.User, a)},
			{"Gid", a.Gid != b.Gid, asks && (f.User == a.Uid && member(f.User, b.Gid) || leads(f.User, a.Gid) && leads(f.User, b.Gid))},
			{"Mtime", a.Mtime != b.Mtime, writes || turns || asks && governs(f.User, a)},
			{"Vers, Muid", a.Vers != b.Vers || a.Muid != b.Muid, writes || turns},
			{"Atime", a.Atime != b.Atime, here && x.r.Kind == api.Ropen},
			{"Opens", a.Opens != b.Opens, slices.ContainsFunc(x.actors(), func(f api.Fid) bool { return f.Node == a.Path })},
			{"Kids", a.Kids != b.Kids, turns},
		}
	}
	for _, c := range l {
		if c.is && !c.may {
			failf(t, "%s by %+v, %s: %s: %+v, was %+v", shown(x.q), f, shown(x.r), c.what, b, a)
		}
		if c.is {
			g.given[c.what]++
		}
	}
}

// drops tells whether a file may be removed by whoever asks.
func (x exchange) drops(path uint64) bool {
	asks := x.r.Kind == api.Rremove
	return slices.ContainsFunc(x.actors(), func(f api.Fid) bool {
		return f.Node == path && (asks || f.Remove && f.State == api.FidOpen) && may(f.User, x.was.parent(path), 2)
	})
}

// turnsKids tells whether a child of a directory was made, removed or called another name by somebody who may write that directory.
func (x exchange) turnsKids(dir api.Node) bool {
	return slices.ContainsFunc(x.actors(), func(f api.Fid) bool {
		return may(f.User, dir, 2) && (f.Node == dir.Path && x.r.Kind == api.Rcreate || x.was.nodes[f.Node].Parent == dir.Path && (x.r.Kind == api.Rwstat || x.drops(f.Node)))
	})
}

// T9, by each request: what it is answered, and what it changes, was given to its user.
func TestNobodyGetsMore(t *testing.T) {
	t.Parallel()
	rnd := rand.New(rand.NewSource(30))
	g := &guard{given: map[string]int{}}
	for range 60 {
		p := withConns(t, someConfig(rnd), 2)
		g.opened = map[place]uint32{}
		for range 400 {
			s := somebody{rnd, p.m.w, 1 + rnd.Intn(2)}
			x := exchange{conn: s.conn, q: s.fitting(), was: seenOf(p.s, s.conn)}
			x.r, _ = p.ask(t, s.conn, x.q)
			x.is = seenOf(p.s, s.conn)
			g.wantGiven(t, x)
			g.wantMay(t, x)
			if x.r.Kind == api.Rerror && x.q.Kind != api.Tremove && !same(x.is, x.was) {
				failf(t, "%s was refused, and has changed something", shown(x.q))
			}
			p.tick(uint32(1 + rnd.Intn(2)))
		}
	}
	for _, what := range []string{"103", "105", "107", "111", "113", "115", "117", "119", "121", "123", "125", "127", "is gone", "bytes", "Name", "Mode", "Gid", "Mtime", "Vers, Muid", "Atime", "Opens", "Kids"} {
		if g.given[what] < 5 {
			t.Errorf("%s: %d times", what, g.given[what])
		}
	}
}

// eves is a server whose tree is eve's, who has a key that nobody else knows, with things that are nobody else's; secret says what they are.
func eves(t *testing.T, perm uint32, secret string) pair {
	t.Helper()
	c := config()
	c.Users = "ann:::\nbob:::\nkim:::\neve:::" + secretKey + "\nsys:bob:ann,eve:\n"
	c.Owner, c.Group, c.Perm, c.Msize, c.Nodes = "eve", "eve", perm, 8192, 40
	p := withConns(t, c, 3)
	p.done(t, 1, aVersion(8192))
	p.done(t, 1, anAuth(1, "eve"))
	p.shows(t, 1, 1, "eve", secretKey)
	p.done(t, 1, attachBy(0, 1, "eve"))
	p.file(t, "", "sec", 0600, secret)
	p.file(t, "", "told", 0644, "all may read this")
	p.dir(t, "priv", 0700)
	p.file(t, "priv", secret, 0644, secret+", and how long")
	p.dir(t, "listed", 0744)
	p.file(t, "listed", "a", 0666, secret)
	p.dir(t, "through", 0711)
	p.file(t, "through", "b", 0600, secret)
	p.file(t, "through", "c", 0644, "whoever knows the name may read this")
	p.file(t, "through", "d", 0622, secret)
	return p
}

const secretKey = "nobody-knows"

func (p pair) dir(t *testing.T, name string, perm uint32) {
	t.Helper()
	p.done(t, 1, aWalk(0, 90))
	p.done(t, 1, aCreate(90, name, dirBit|perm, 0))
	p.done(t, 1, aClunk(90))
}

func (p pair) file(t *testing.T, dir, name string, perm uint32, text string) {
	t.Helper()
	p.done(t, 1, aWalk(0, 90, slices.DeleteFunc([]string{dir}, func(s string) bool { return s == "" })...))
	p.done(t, 1, aCreate(90, name, perm, 1))
	p.done(t, 1, aWrite(90, 0, text))
	p.done(t, 1, aClunk(90))
}

// T9, by two servers that part in what the others have no right to see: bytes that nobody else may read, names and records in a directory through which, and of which, nobody else may. Whatever the others ask, they are told the same by both. And what is eve's stays as it is, if nobody was given a right to change it.
func TestSecretsAreNotTold(t *testing.T) {
	t.Parallel()
	rnd := rand.New(rand.NewSource(31))
	refused, told := 0, 0
	for range 30 {
		perm := oneOf[uint32](rnd, 0755, 0777)
		one, other := eves(t, perm, "secret!"), eves(t, perm, "0123456")
		eve := ofEve(one.s)
		for range 500 {
			s := somebody{rnd, one.m.w, 2 + rnd.Intn(2)}
			f := s.frame()
			b, e := one.feed(t, s.conn, f)
			got, gotE := other.s.Feed(s.conn, f)
			if e != gotE || !bytes.Equal(b, got) {
				failf(t, "%x: the one tells %x, the other %x", f, b, got)
			}
			if !same(one.s.Fids(s.conn), other.s.Fids(s.conn)) {
				failf(t, "%x: %+v, %+v", f, one.s.Fids(s.conn), other.s.Fids(s.conn))
			}
			for _, r := range replies(b) {
				refused += btoi(r.Ename == api.ErrPerm.Error())
				told += btoi(r.Kind == api.Rread && len(r.Data) > 0)
			}
			one.tick(1)
			other.s.Tick(1)
		}
		for path, n := range eve {
			if is := nodeOf(one.s, path); is.Path != 0 && (is.Mode != n.is.Mode || is.Gid != n.is.Gid || is.Uid != "eve" || is.Parent != n.is.Parent || n.is.Mode&022 == 0 && one.content(path) != n.data || perm == 0755 && is.Name != n.is.Name) || is.Path == 0 && perm == 0755 {
				failf(t, "of eve: %+v, was %+v", is, n)
			}
		}
		if n := nodeOf(one.s, 1); perm == 0755 && (n.Vers != eve[1].is.Vers || n.Kids != eve[1].is.Kids) {
			failf(t, "the root: %+v", n)
		}
	}
	if refused < 500 || told < 50 {
		t.Errorf("%d refused, %d told", refused, told)
	}
}

func btoi(is bool) int {
	if is {
		return 1
	}
	return 0
}

func (p pair) content(path uint64) string { return string(p.s.Content(path)) }

// kept is a node, and its bytes.
type kept struct {
	is   api.Node
	data string
}

// ofEve are the nodes of a server.
func ofEve(s *solo.Server) map[uint64]kept {
	l := map[uint64]kept{}
	for _, n := range s.Nodes() {
		l[n.Path] = kept{n, string(s.Content(n.Path))}
	}
	return l
}

// T9: whoever has a key is nobody till it was shown: at no step of the exchange but behind the last one, by no other fid, in no other session, for no other user, and by no other key.
func TestKeyIsShown(t *testing.T) {
	c := config()
	c.Users += "kim:::k\n"
	p := withSession(t, c)
	p.done(t, 2, aVersion(8192))
	bad := func(l ...api.Msg) {
		t.Helper()
		for _, q := range l {
			p.refused(t, 1, api.ErrAuth, frameOf(q))
		}
	}
	bad(anAttach(30, "eve"), attachBy(30, 0, "eve"))
	p.refused(t, 1, api.ErrFid, frameOf(attachBy(30, 7, "eve")))
	p.done(t, 1, anAuth(7, "eve"))
	bad(attachBy(30, 7, "eve"), attachBy(30, 7, "ann"), attachBy(30, 7, "kim"))
	hello := p.done(t, 1, aRead(7, 0, 24)).Data
	bad(attachBy(30, 7, "eve"))
	hello = append(hello, p.done(t, 1, aRead(7, 24, 1)).Data...)
	bad(attachBy(30, 7, "eve"))
	answer, _ := auth.Answer("k", "eve", "", hello, 5)
	p.done(t, 1, aWrite(7, 0, string(answer[:32])))
	bad(attachBy(30, 7, "eve"))
	p.done(t, 1, aWrite(7, 32, string(answer[32:])))
	bad(attachBy(30, 7, "eve"))
	p.done(t, 1, aRead(7, 0, 16))
	bad(attachBy(30, 7, "eve"))
	p.done(t, 1, aRead(7, 16, 1))
	bad(attachBy(30, 7, "kim"), attachBy(30, 7, "bob"), anAttach(30, "eve"), attachBy(30, 9, "eve"))
	p.refused(t, 2, api.ErrFid, frameOf(attachBy(30, 7, "eve")))
	p.done(t, 1, attachBy(30, 7, "eve"))
	p.done(t, 1, attachBy(31, 7, "eve")) // once it was shown, as often as one likes

	p.done(t, 1, anAuth(8, "eve"))
	p.done(t, 1, aRead(8, 0, 100))
	p.done(t, 1, aWrite(8, 0, string(answer))) // to another hello
	p.refused(t, 1, api.ErrAuthKey, frameOf(aRead(8, 0, 100)))
	bad(attachBy(32, 8, "eve"))
	p.done(t, 1, aVersion(8192))
	p.refused(t, 1, api.ErrFid, frameOf(attachBy(30, 7, "eve"))) // the session has ended in which it was shown
	p.done(t, 1, anAuth(7, "eve"))
	if p.shows(t, 1, 7, "eve", "other") {
		t.Error("the server shows a key that is another one")
	}
	bad(attachBy(30, 7, "eve"))
}

// T9: each class of a node's rights: the owner's, the group's, all's; of what they have not, nothing is told or changed.
func TestClasses(t *testing.T) {
	c := config()
	c.Users = "ann:::\nbob:::\nkim:::\nsys::ann,bob:\n"
	c.Owner, c.Group, c.Perm = "ann", "sys", 0777
	for _, mode := range []uint32{0, 0400, 0200, 0100, 0040, 0020, 0010, 0004, 0002, 0001, 0600, 0060, 0006, 0640, 0755, 0777} {
		p := withConns(t, c, 1)
		p.done(t, 1, aVersion(8192))
		p.done(t, 1, anAttach(0, "ann"))
		p.done(t, 1, aWalk(0, 1))
		p.done(t, 1, aCreate(1, "x", 0777, 1))
		p.done(t, 1, aWrite(1, 0, "abc"))
		p.done(t, 1, aWstat(1, func(s *api.Stat) { s.Mode = mode }))
		p.done(t, 1, aWalk(0, 2))
		p.done(t, 1, aCreate(2, "d", dirBit|0777, 0))
		p.done(t, 1, aWalk(0, 3, "d"))
		p.done(t, 1, aCreate(3, "y", 0666, 0))
		p.done(t, 1, aWstat(2, func(s *api.Stat) { s.Mode = dirBit | mode }))
		for user, has := range map[string]uint32{"ann": mode/64%8 | mode/8%8 | mode%8, "bob": mode/8%8 | mode%8, "kim": mode % 8} {
			p.done(t, 1, anAttach(20, user))
			for how := range uint8(4) {
				p.wantMay(t, has&wants(how) == wants(how), anOpen(21, how), aWalk(20, 21, "x"))
				p.wantMay(t, has&wants(how|0x10) == wants(how|0x10), anOpen(21, how|0x10), aWalk(20, 21, "x"), aWstat(1, func(s *api.Stat) { s.Mode = mode }))
			}
			p.wantMay(t, has&4 > 0, anOpen(21, 0), aWalk(20, 21, "d"))
			p.wantMay(t, has&1 > 0, aWalk(21, 22, "y"), aWalk(20, 21, "d"))
			p.wantMay(t, has&1 > 0, aWalk(21, 22, ".."), aWalk(20, 21, "d"))
			p.wantMay(t, has&2 > 0, aCreate(21, "new"+user, 0666, 0), aWalk(20, 21, "d"))
			p.wantMay(t, has&2 > 0, aWstat(21, func(s *api.Stat) { s.Length = 7 + uint64(has) }), aWalk(20, 21, "x"))
			p.wantMay(t, user == "ann" || user == "bob", aWstat(21, func(s *api.Stat) { s.Mtime = 77 }), aWalk(20, 21, "x"), aWstat(1, func(s *api.Stat) { s.Mtime = 76 }))
			p.done(t, 1, aClunk(20))
		}
	}
}

// wantMay asks whether a request is done, or refused for want of a right; behind some that are done ahead. The fids 21 and 22 are no more then.
func (p pair) wantMay(t *testing.T, may bool, q api.Msg, ahead ...api.Msg) {
	t.Helper()
	for _, first := range ahead {
		p.done(t, 1, first)
	}
	was := p.all()
	r := p.do(t, 1, q)
	p.wantSame(t)
	if may != (r.Kind == q.Kind+1) || !may && (r.Ename != api.ErrPerm.Error() || !same(p.all(), was)) {
		failf(t, "%s: %s, may: %v; %s", shown(q), shown(r), may, shown(p.all()))
	}
	p.do(t, 1, aClunk(21))
	p.do(t, 1, aClunk(22))
}

// T9: a file that is to go with its fid goes only if its user may write the directory then: by a clunk, by a new session, by the connection's end.
func TestGoesOnlyByRight(t *testing.T) {
	c := config()
	c.Perm = 0777
	for what, end := range map[string]func(pair){
		"a clunk":       func(p pair) { p.done(t, 2, aClunk(1)) },
		"a new session": func(p pair) { p.done(t, 2, aVersion(8192)) },
		"Close":         func(p pair) { p.close(t, 2) },
		"its bytes":     func(p pair) { p.over(t, 2, sized(1)) },
	} {
		for _, given := range []bool{true, false} {
			p := withSession(t, c)
			p.done(t, 2, aVersion(8192))
			p.done(t, 2, anAttach(0, "bob"))
			d := p.make(t, 1, "d", dirBit|0777)
			p.done(t, 2, aWalk(0, 1, "d"))
			x := p.done(t, 2, aCreate(1, "x", 0666, 0x40)).Qid.Path
			if !given {
				p.done(t, 1, aWalk(0, 2, "d"))
				p.done(t, 1, aWstat(2, func(s *api.Stat) { s.Mode = dirBit | 0755 }))
			}
			was := p.is(t, d)
			end(p)
			p.wantSame(t)
			if p.isThere(x) == given || given == (p.is(t, d) == was) {
				t.Errorf("%s, may: %v: %+v", what, given, p.s.Nodes())
			}
			if !given && p.is(t, x).Opens != 0 {
				t.Errorf("%s: %+v is open yet", what, p.is(t, x))
			}
		}
	}
}
