package seq_test

import (
	"fmt"
	"math"
	"math/rand"
	"slices"
	"strings"
	"testing"

	"verger/api"
	"verger/auth"
	"verger/rules"
	"verger/seq"
	"verger/stat"
)

// config is that of the chapter's examples, with room for more.
func config() api.Config {
	return api.Config{Users: "ann:::\nbob:::\neve:::k\n", Owner: "ann", Group: "ann", Perm: 0755, Seed: 7, Msize: 8192, Fids: 20, Tags: 4, Nodes: 20, Workers: 2}
}

func newWorld(t *testing.T, c api.Config) *seq.World {
	t.Helper()
	w, e := seq.New(c)
	if w == nil || e != api.OK {
		failf(t, "New(%+v): %v, %d", c, w, e)
	}
	return w
}

// failf ends a test with a line, however long what it tells is, and whatever bytes that has.
func failf(t *testing.T, format string, args ...any) {
	t.Helper()
	text := fmt.Sprintf(format, args...)
	t.Fatal(strings.ToValidUTF8(text[:min(len(text), 4000)], "?"))
}

// pair is a world and its model: each call is asked of both.
type pair struct {
	w     *seq.World
	m     *model
	conns []int // those at which is looked
}

func newPair(t *testing.T, c api.Config) pair {
	t.Helper()
	return pair{newWorld(t, c), newModel(t, c), []int{0, 1, 2, -3, math.MaxInt}}
}

// withSession is a pair with a session of connection 1, whose fid 0 is ann's and whose fid 9 is bob's, both at the root; now is 5.
func withSession(t *testing.T, c api.Config) pair {
	t.Helper()
	p := newPair(t, c)
	p.tick(5)
	p.done(t, 1, aVersion(8192))
	p.done(t, 1, anAttach(0, "ann"))
	p.done(t, 1, anAttach(9, "bob"))
	return p
}

func (p pair) tick(n uint32) {
	p.w.Tick(n)
	p.m.now += n
}

func (p pair) clone() pair { return pair{p.w.Clone(), p.m.clone(), p.conns} }

// do does a request to both: what it needs, what it comes to and what it is answered have to be the same.
func (p pair) do(t *testing.T, conn int, q api.Msg) api.Msg {
	t.Helper()
	p.wantLooks(t, conn, q)
	want := p.m.do(conn, q)
	if r := p.w.Do(conn, q); !same(r, want) {
		failf(t, "Do(%d, %s) = %s\nwant %s\nthere is now %s", conn, shown(q), shown(r), shown(want), shown(p.m.all(p.conns)))
	}
	return want
}

// wantLooks asks of both what is asked by looking alone.
func (p pair) wantLooks(t *testing.T, conn int, q api.Msg) {
	t.Helper()
	if l, want := p.w.Foot(conn, q), p.m.foot(conn, q); !slices.Equal(l, want) {
		failf(t, "Foot(%d, %s) = %s\nwant %s\nthere is %s", conn, shown(q), shown(l), shown(want), shown(p.m.all(p.conns)))
	}
	if plan, want := p.w.Decide(conn, q), p.m.plan(conn, q); !same(plan, want) {
		failf(t, "Decide(%d, %s) = %s\nwant %s\nthere is %s", conn, shown(q), shown(plan), shown(want), shown(p.m.all(p.conns)))
	}
}

// wantSame holds all that a world tells to its model.
func (p pair) wantSame(t *testing.T) {
	t.Helper()
	if got, want := allOf(p.w, p.conns), p.m.all(p.conns); !sameAll(got, want) {
		failf(t, "there is %s\nwant %s", shown(got), shown(want))
	}
	for _, conn := range p.conns {
		var want []api.Msg
		for _, f := range p.m.on(conn).fids {
			want = append(want, api.Msg{Kind: api.Tclunk, Fid: f.Num})
		}
		if l := p.w.Ends(conn); !same(l, want) {
			failf(t, "Ends(%d) = %s, want %s", conn, shown(l), shown(want))
		}
	}
}

// done does a request that is not refused.
func (p pair) done(t *testing.T, conn int, q api.Msg) api.Msg {
	t.Helper()
	r := p.do(t, conn, q)
	if r.Kind != q.Kind+1 {
		failf(t, "Do(%d, %s) = %s", conn, shown(q), shown(r))
	}
	p.wantSame(t)
	return r
}

// refused does requests each of which is refused by that error, and changes nothing: but that a Tremove takes its fid, if there is one.
func (p pair) refused(t *testing.T, conn int, why api.Errno, l ...api.Msg) {
	t.Helper()
	for _, q := range l {
		was := p.clone()
		if q.Kind == api.Tremove {
			p = p.clone()
		}
		r := p.do(t, conn, q)
		if want := (api.Msg{Kind: api.Rerror, Tag: q.Tag, Ename: why.Error()}); !same(r, want) {
			failf(t, "Do(%d, %s) = %s, want %s", conn, shown(q), shown(r), shown(want))
		}
		p.wantSame(t)
		if q.Kind != api.Tremove {
			p.m = was.m
			p.wantSame(t)
		}
	}
}

// wantPlan asks what a request comes to.
func (p pair) wantPlan(t *testing.T, conn int, q api.Msg, reply api.Msg, now, later []api.Piece) {
	t.Helper()
	reply.Kind, reply.Tag = q.Kind+1, q.Tag
	want := api.Plan{Reply: reply, Now: now, Pieces: later}
	if plan := p.w.Decide(conn, q); !same(plan, want) {
		failf(t, "Decide(%d, %s) = %s\nwant %s", conn, shown(q), shown(plan), shown(want))
	}
	p.wantLooks(t, conn, q)
}

// wantRefusal asks what a request comes to that is refused.
func (p pair) wantRefusal(t *testing.T, conn int, q api.Msg, why api.Errno, now ...api.Piece) {
	t.Helper()
	want := api.Plan{Reply: api.Msg{Kind: api.Rerror, Tag: q.Tag, Ename: why.Error()}, Now: now}
	if plan := p.w.Decide(conn, q); !same(plan, want) {
		failf(t, "Decide(%d, %s) = %s\nwant %s", conn, shown(q), shown(plan), shown(want))
	}
	p.wantLooks(t, conn, q)
}

// wantFoot asks which locks a request needs.
func (p pair) wantFoot(t *testing.T, conn int, q api.Msg, want ...api.Need) {
	t.Helper()
	if l := p.w.Foot(conn, q); !slices.Equal(l, want) {
		failf(t, "Foot(%d, %s) = %s, want %s", conn, shown(q), shown(l), shown(want))
	}
	p.wantLooks(t, conn, q)
}

func (p pair) wantFid(t *testing.T, conn int, num uint32, want api.Fid) {
	t.Helper()
	for _, f := range p.w.Fids(conn) {
		if f.Num == num && same(f.Fid, want) {
			return
		}
	}
	failf(t, "Fids(%d) = %s, want %d: %s", conn, shown(p.w.Fids(conn)), num, shown(want))
}

func (p pair) wantNode(t *testing.T, want api.Node) {
	t.Helper()
	if l := p.w.Nodes(); !slices.Contains(l, want) {
		failf(t, "Nodes() = %s, want %s", shown(l), shown(want))
	}
}

// Requests, in short.

func aVersion(msize uint32) api.Msg {
	return api.Msg{Kind: api.Tversion, Tag: api.NoTag, Msize: msize, Version: "9P2000"}
}

func anAuth(afid uint32, user string) api.Msg {
	return api.Msg{Kind: api.Tauth, Tag: 2, Afid: afid, Uname: user}
}

func anAttach(fid uint32, user string) api.Msg { return attachBy(fid, noFid, user) }

func attachBy(fid, afid uint32, user string) api.Msg {
	return api.Msg{Kind: api.Tattach, Tag: 3, Fid: fid, Afid: afid, Uname: user}
}

func aWalk(fid, newfid uint32, names ...string) api.Msg {
	return api.Msg{Kind: api.Twalk, Tag: 4, Fid: fid, Newfid: newfid, Names: names}
}

func anOpen(fid uint32, mode uint8) api.Msg {
	return api.Msg{Kind: api.Topen, Tag: 5, Fid: fid, Mode: mode}
}

func aCreate(fid uint32, name string, perm uint32, mode uint8) api.Msg {
	return api.Msg{Kind: api.Tcreate, Tag: 6, Fid: fid, Name: name, Perm: perm, Mode: mode}
}

func aRead(fid uint32, offset uint64, count uint32) api.Msg {
	return api.Msg{Kind: api.Tread, Tag: 7, Fid: fid, Offset: offset, Count: count}
}

func aWrite(fid uint32, offset uint64, data string) api.Msg {
	return api.Msg{Kind: api.Twrite, Tag: 8, Fid: fid, Offset: offset, Data: []byte(data)}
}

func aClunk(fid uint32) api.Msg { return api.Msg{Kind: api.Tclunk, Tag: 9, Fid: fid} }

func aRemove(fid uint32) api.Msg { return api.Msg{Kind: api.Tremove, Tag: 10, Fid: fid} }

func aStat(fid uint32) api.Msg { return api.Msg{Kind: api.Tstat, Tag: 11, Fid: fid} }

func aWstat(fid uint32, turn func(*api.Stat)) api.Msg {
	want := stat.Keep()
	turn(&want)
	return api.Msg{Kind: api.Twstat, Tag: 12, Fid: fid, Stat: want}
}

func nothing(*api.Stat) {}

// make makes a file or directory in the root by ann, and clunks the fid by which it was made.
func (p pair) make(t *testing.T, name string, perm uint32) {
	t.Helper()
	p.done(t, 1, aWalk(0, 99))
	p.done(t, 1, aCreate(99, name, perm, 0))
	p.done(t, 1, aClunk(99))
}

// fid makes a fid walk to a name from another one.
func (p pair) fid(t *testing.T, from, to uint32, names ...string) {
	t.Helper()
	p.done(t, 1, aWalk(from, to, names...))
}

// Requests of all sorts, by chance.

func oneOf[V any](rnd *rand.Rand, l ...V) V { return l[rnd.Intn(len(l))] }

func often(rnd *rand.Rand, of int) bool { return rnd.Intn(of) > 0 }

// someConfig is one of a small world, of people who belong to one another.
func someConfig(rnd *rand.Rand) api.Config {
	return api.Config{
		Users: "ann:::\nbob:::\neve:::k\nsys:bob:ann,eve:\nkim:::key\n", Owner: oneOf(rnd, "ann", "bob"), Group: oneOf(rnd, "ann", "sys"), Perm: oneOf[uint32](rnd, 0777, 0777, 0777, 0775, 0755, 0700),
		Seed: rnd.Uint64(), Msize: oneOf[uint32](rnd, 512, 600, 8192, 65536), Fids: 2 + rnd.Intn(12), Tags: 1 + rnd.Intn(64), Nodes: 2 + rnd.Intn(20), Workers: 1 + rnd.Intn(16),
	}
}

func someNum(rnd *rand.Rand) uint32 {
	if often(rnd, 30) {
		return uint32(rnd.Intn(8))
	}
	return oneOf[uint32](rnd, noFid, noFid-1, 1<<31, 65536)
}

// someFid is the number of a fid that there is, mostly; if there are such, of one of a state.
func (m *model) someFid(rnd *rand.Rand, conn int, state api.FidState) uint32 {
	var l, such []uint32
	for _, f := range m.on(conn).fids {
		l = append(l, f.Num)
		if f.Fid.State == state {
			such = append(such, f.Num)
		}
	}
	if len(l) == 0 || rnd.Intn(15) == 0 {
		return someNum(rnd)
	}
	if len(such) > 0 && often(rnd, 10) {
		return oneOf(rnd, such...)
	}
	return oneOf(rnd, l...)
}

func someName(rnd *rand.Rand) string {
	if often(rnd, 25) {
		return oneOf(rnd, "a", "b", "c", "d", "e", "long, long, long, long", "é")
	}
	return oneOf(rnd, "", ".", "..", "x/y", strings.Repeat("n", 255), strings.Repeat("n", 256), "\xff", "\x00")
}

// someNames are names by which one can go on from a node, mostly.
func (m *model) someNames(rnd *rand.Rand, here uint64) []string {
	var l []string
	for range oneOf(rnd, 0, 1, 1, 1, 2, 3, rnd.Intn(18)) {
		name := oneOf(rnd, someName(rnd), "..")
		if kids := m.kids(here); len(kids) > 0 && often(rnd, 6) {
			here = oneOf(rnd, kids...)
			name = m.node(here).Name
		}
		l = append(l, name)
	}
	return l
}

func someOffset(rnd *rand.Rand) uint64 {
	if often(rnd, 15) {
		return uint64(rnd.Intn(4)*256 + oneOf(rnd, 0, 0, 1, 255, 100))
	}
	if often(rnd, 5) {
		return oneOf[uint64](rnd, 65536, 70000, 1<<32, math.MaxUint64, math.MaxUint64-5)
	}
	return oneOf[uint64](rnd, 65535, 65280, 65000) // seldom: by these files become as great as can be
}

func someData(rnd *rand.Rand) []byte {
	b := make([]byte, oneOf(rnd, 0, 1, 5, 256, rnd.Intn(300), rnd.Intn(700)))
	rnd.Read(b)
	return b
}

func someText(rnd *rand.Rand) string { return oneOf(rnd, "ann", "bob", "eve", "sys", "kim", "joe", "") }

// someTurn is a change of a record.
func someTurn(rnd *rand.Rand, n api.Node) api.Stat {
	want := oneOf(rnd, stat.Keep(), rules.Record(n))
	turns := []func(){
		func() { want.Mode = n.Mode ^ 1<<rnd.Intn(9) }, func() { want.Mode = n.Mode ^ oneOf[uint32](rnd, exclBit, appendBit, tmpBit, dirBit, 1<<20) },
		func() { want.Mtime = oneOf(rnd, 1, 2, n.Mtime) }, func() { want.Length = uint64(rnd.Intn(600)) }, func() { want.Length = someOffset(rnd) },
		func() { want.Name = someName(rnd) }, func() { want.Name = someName(rnd) }, func() { want.Gid = someText(rnd) }, func() { want.Gid = oneOf(rnd, "sys", "ann") },
	}
	for range rnd.Intn(4) {
		oneOf(rnd, turns...)()
	}
	if rnd.Intn(20) == 0 {
		oneOf(rnd, func() { want.Type = 1 }, func() { want.Dev = 1 }, func() { want.Qid.Vers = 77 }, func() { want.Atime = 3 }, func() { want.Uid = "kim" }, func() { want.Muid = "kim" })()
	}
	return want
}

// someRequest is a request, or something that is none, and of which connection; often one that is not refused.
func (m *model) someRequest(rnd *rand.Rand) (int, api.Msg) {
	conn := oneOf(rnd, 1, 1, 1, 2, -3)
	if m.on(conn).msize == 0 && often(rnd, 4) {
		return conn, aVersion(oneOf[uint32](rnd, 512, 600, 8192, 100000))
	}
	if len(m.on(conn).fids) == 0 && often(rnd, 3) {
		return conn, anAttach(someNum(rnd), oneOf(rnd, "ann", "bob", "sys"))
	}
	ask := oneOf(rnd, m.aboutUsers, m.aboutUsers, m.aboutNone)
	if often(rnd, 5) {
		ask = m.aboutFiles
	}
	q := ask(rnd, conn)
	q.Tag = uint16(rnd.Intn(65536))
	if rnd.Intn(100) == 0 {
		q.Kind = api.Kind(rnd.Intn(256))
	}
	return conn, q
}

func (m *model) aboutFiles(rnd *rand.Rand, conn int) api.Msg {
	isShut, isOpen := m.someFid(rnd, conn, shut), m.someFid(rnd, conn, open)
	any := oneOf(rnd, isShut, isOpen, m.someFid(rnd, conn, talks))
	f := m.on(conn).fid(isOpen)
	switch rnd.Intn(16) {
	case 0, 1, 2, 3:
		from := oneOf(rnd, any, isShut, isShut, isShut)
		return aWalk(from, oneOf(rnd, someNum(rnd), someNum(rnd), someNum(rnd), from), m.someNames(rnd, m.on(conn).fid(from).Node)...)
	case 4, 5:
		mode := oneOf[uint8](rnd, 0, 1, 2, 3, 0x10, 0x11, 0x12, 0x40, 0x41, 0x52, uint8(rnd.Intn(256)))
		if m.node(m.on(conn).fid(isShut).Node).Mode >= dirBit && often(rnd, 4) {
			mode = 0
		}
		return anOpen(oneOf(rnd, any, isShut, isShut, isShut), mode)
	case 6, 7, 8:
		perm := oneOf[uint32](rnd, 0666, 0777, 0777, dirBit|0777, dirBit|0777, dirBit|0777, appendBit|0666, exclBit|0666, tmpBit|0600, 0, 1<<rnd.Intn(32))
		mode := oneOf[uint8](rnd, 0, 0, 1, 2, 2, 3, 0x40, 0x42, 0x12, uint8(rnd.Intn(256)))
		if perm >= dirBit && often(rnd, 4) {
			mode = 0
		}
		return aCreate(oneOf(rnd, any, isShut, isShut, isShut), someName(rnd), perm, mode)
	case 9, 10:
		return aRead(oneOf(rnd, any, isOpen, isOpen), oneOf(rnd, 0, 0, f.Told, f.Told, someOffset(rnd)), oneOf[uint32](rnd, 0, 1, 49, 60, 110, 300, 600, 65536, math.MaxUint32))
	case 11, 12:
		return aWrite(oneOf(rnd, any, isOpen, isOpen), someOffset(rnd), string(someData(rnd)))
	case 13:
		return oneOf(rnd, aClunk, aRemove)(any)
	case 14:
		return aStat(any)
	}
	return api.Msg{Kind: api.Twstat, Fid: any, Stat: someTurn(rnd, m.node(m.on(conn).fid(any).Node))}
}

func (m *model) aboutUsers(rnd *rand.Rand, conn int) api.Msg {
	afid := m.someFid(rnd, conn, talks)
	said := m.on(conn).fid(afid).Talk
	tree := oneOf(rnd, "", "", "", "", "tree")
	switch rnd.Intn(8) {
	case 0:
		q := anAuth(someNum(rnd), oneOf(rnd, "eve", "kim", someText(rnd)))
		q.Aname = tree
		return q
	case 1, 2:
		return aRead(afid, someOffset(rnd), oneOf[uint32](rnd, 0, 5, 100, 100))
	case 3, 4, 5:
		return aWrite(afid, someOffset(rnd), string(saying(rnd, said)))
	case 6:
		q := attachBy(someNum(rnd), afid, oneOf(rnd, said.User, someText(rnd)))
		q.Aname = tree
		return q
	}
	return attachBy(someNum(rnd), oneOf(rnd, noFid, noFid, m.someFid(rnd, conn, shut)), someText(rnd))
}

// saying is some of what there is to be said at this step of an authentication; seldom something else.
func saying(rnd *rand.Rand, said api.Talk) []byte {
	key := map[string]string{"eve": "k", "kim": "key"}[said.User]
	line, _ := auth.Answer(key, said.User, said.Tree, fmt.Appendf(nil, "verger1 %016x\n", said.Ours), 99)
	rest := line[min(len(said.Heard), len(line)):]
	if rnd.Intn(20) == 0 {
		return append(slices.Clone(rest), someData(rnd)...)
	}
	return rest[:oneOf(rnd, len(rest), rnd.Intn(len(rest)+1))]
}

func (m *model) aboutNone(rnd *rand.Rand, conn int) api.Msg {
	switch rnd.Intn(16) {
	case 0:
		return api.Msg{Kind: api.Kind(rnd.Intn(256))}
	case 1:
		return api.Msg{Kind: oneOf(rnd, api.Tversion, api.Tauth, api.Tattach, api.Tcreate), Afid: 1, Msize: 600, Uname: "\xff", Version: "\x00", Name: "\xff"}
	case 2:
		q := aVersion(oneOf[uint32](rnd, 0, 511, 512, 513, 599, 8191, math.MaxUint32))
		q.Version = oneOf(rnd, "9P2000", "9P2000", "9P2000.u", "9P2000.", "9P2000x", "9P", "", ".9P2000")
		return q
	}
	return api.Msg{Kind: api.Tflush, Oldtag: uint16(rnd.Intn(65536))}
}

// grown is a pair to which requests of all sorts were done.
func grown(t *testing.T, rnd *rand.Rand, requests int) pair {
	t.Helper()
	p := newPair(t, someConfig(rnd))
	for range requests {
		conn, q := p.m.someRequest(rnd)
		p.w.Do(conn, q)
		p.m.do(conn, q)
		p.tick(uint32(rnd.Intn(2)))
	}
	p.wantSame(t)
	return p
}
