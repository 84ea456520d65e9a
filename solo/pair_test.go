package solo_test

import (
	"bytes"
	"fmt"
	"math/rand"
	"reflect"
	"slices"
	"strings"
	"testing"

	"verger/api"
	"verger/msg"
	"verger/seq"
	"verger/solo"
	"verger/stat"
)

const noFid = 4294967295

// config is that of the examples, with room for more.
func config() api.Config {
	return api.Config{Users: "ann:::\nbob:::\neve:::k\n", Owner: "ann", Group: "ann", Perm: 0755, Seed: 7, Msize: 8192, Fids: 20, Tags: 4, Nodes: 20, Workers: 2}
}

// failf ends a test with a line, however long what it tells is, and whatever bytes that has.
func failf(t *testing.T, format string, args ...any) {
	t.Helper()
	text := fmt.Sprintf(format, args...)
	t.Fatal(strings.ToValidUTF8(text[:min(len(text), 4000)], "?"))
}

// pair is a server and its model: each call is asked of both.
type pair struct {
	s *solo.Server
	m *model
}

func newPair(t *testing.T, c api.Config) pair {
	t.Helper()
	s, e := solo.New(c)
	if s == nil || e != api.OK {
		failf(t, "New(%+v): %v, %d", c, s, e)
	}
	w, _ := seq.New(c)
	return pair{s, &model{c: c, w: w}}
}

// withConns is a pair with connections, and no session.
func withConns(t *testing.T, c api.Config, conns int) pair {
	t.Helper()
	p := newPair(t, c)
	for range conns {
		p.open(t)
	}
	return p
}

// withSession is a pair with a session of connection 1, whose fid 0 is ann's and whose fid 9 is bob's, both at the root; now is 5. The connection 2 has none.
func withSession(t *testing.T, c api.Config) pair {
	t.Helper()
	p := withConns(t, c, 2)
	p.tick(5)
	p.done(t, 1, aVersion(8192))
	p.done(t, 1, anAttach(0, "ann"))
	p.done(t, 1, anAttach(9, "bob"))
	return p
}

func (p pair) tick(n uint32) {
	p.s.Tick(n)
	p.m.w.Tick(n)
}

func (p pair) open(t *testing.T) (int, api.Errno) {
	t.Helper()
	want, wantE := p.m.open()
	if n, e := p.s.Open(); n != want || e != wantE {
		failf(t, "Open() = %d, %d; want %d, %d", n, e, want, wantE)
	}
	return want, wantE
}

func (p pair) close(t *testing.T, conn int) api.Errno {
	t.Helper()
	want := p.m.close(conn)
	if e := p.s.Close(conn); e != want {
		failf(t, "Close(%d) = %d, want %d", conn, e, want)
	}
	return want
}

// feed feeds both: what they answer has to be the same.
func (p pair) feed(t *testing.T, conn int, b []byte) ([]byte, api.Errno) {
	t.Helper()
	want, wantE := p.m.feed(conn, b)
	if got, e := p.s.Feed(conn, b); e != wantE || !bytes.Equal(got, want) {
		failf(t, "Feed(%d, %x) = %x, %d; want %x, %d", conn, b, got, e, want, wantE)
	}
	return want, wantE
}

// ask asks both through ports.
func (p pair) ask(t *testing.T, conn int, q api.Msg) (api.Msg, api.Errno) {
	t.Helper()
	want, wantE := p.m.ask(conn, q)
	if r, e := p.s.Port(conn).Ask(q); e != wantE || !same(r, want) {
		failf(t, "Port(%d).Ask(%s) = %s, %d; want %s, %d", conn, shown(q), shown(r), e, shown(want), wantE)
	}
	return want, wantE
}

// do feeds a request, whole; its reply.
func (p pair) do(t *testing.T, conn int, q api.Msg) api.Msg {
	t.Helper()
	b, e := p.feed(t, conn, frameOf(q))
	l := replies(b)
	if e != api.OK || len(l) != 1 || l[0].Tag != q.Tag {
		failf(t, "Feed(%d, %s): %d; %+v", conn, shown(q), e, l)
	}
	return l[0]
}

// done does a request that is not refused.
func (p pair) done(t *testing.T, conn int, q api.Msg) api.Msg {
	t.Helper()
	r := p.do(t, conn, q)
	if r.Kind != q.Kind+1 {
		failf(t, "%d, %s: %s", conn, shown(q), shown(r))
	}
	p.wantSame(t)
	return r
}

// refused feeds frames each of which is refused by that error, and changes nothing.
func (p pair) refused(t *testing.T, conn int, why api.Errno, frames ...[]byte) {
	t.Helper()
	for _, f := range frames {
		was := p.all()
		b, e := p.feed(t, conn, f)
		want := frameOf(api.Msg{Kind: api.Rerror, Tag: uint16(f[5]) + uint16(f[6])*256, Ename: why.Error()})
		if e != api.OK || !bytes.Equal(b, want) {
			failf(t, "Feed(%d, %x) = %x, %d; want %x", conn, f, b, e, want)
		}
		p.wantSame(t)
		if !same(p.all(), was) {
			failf(t, "Feed(%d, %x): there is %s, was %s", conn, f, shown(p.all()), shown(was))
		}
	}
}

// over feeds bytes by which a connection ends, and whose answer is that.
func (p pair) over(t *testing.T, conn int, b []byte, want ...api.Msg) {
	t.Helper()
	told, e := p.feed(t, conn, b)
	if e != api.OK || !bytes.Equal(told, framesOf(want...)) {
		failf(t, "Feed(%d, %x) = %x, %d", conn, b, told, e)
	}
	p.wantOver(t, conn)
}

func (p pair) wantOver(t *testing.T, conn int) {
	t.Helper()
	for _, b := range [][]byte{nil, {0}, frameOf(aVersion(8192))} {
		if told, e := p.feed(t, conn, b); e != api.ErrClosed || len(told) > 0 {
			failf(t, "behind the end of %d: %x, %d", conn, told, e)
		}
	}
	if l := p.s.Fids(conn); len(l) > 0 {
		failf(t, "behind the end of %d: %s", conn, shown(l))
	}
	p.wantSame(t)
}

// all is what there is to be seen of a server.
type all struct {
	Nodes []api.Node
	Data  []string
	Fids  [][]api.FidAt
}

// looks are the calls by which a server or a world is looked at.
type looks interface {
	Nodes() []api.Node
	Content(path uint64) []byte
	Fids(conn int) []api.FidAt
}

func allOf(l looks, conns int) all {
	a := all{Nodes: l.Nodes()}
	for _, n := range a.Nodes {
		a.Data = append(a.Data, string(l.Content(n.Path)))
	}
	for conn := -1; conn <= conns+1; conn++ {
		a.Fids = append(a.Fids, l.Fids(conn))
	}
	return a
}

func (p pair) all() all { return allOf(p.s, len(p.m.lines)) }

// wantSame holds all that a server tells to its model.
func (p pair) wantSame(t *testing.T) {
	t.Helper()
	if got, want := p.all(), allOf(p.m.w, len(p.m.lines)); !same(got, want) {
		failf(t, "there is %s\nwant %s", shown(got), shown(want))
	}
}

// is is a node of a server.
func (p pair) is(t *testing.T, path uint64) api.Node {
	t.Helper()
	for _, n := range p.s.Nodes() {
		if n.Path == path {
			return n
		}
	}
	failf(t, "no node %d: %s", path, shown(p.s.Nodes()))
	return api.Node{}
}

// isThere tells whether a node is in the tree.
func (p pair) isThere(path uint64) bool {
	return slices.ContainsFunc(p.s.Nodes(), func(n api.Node) bool { return n.Path == path })
}

// same holds two things against one another; a list of nothing may be nil or not.
func same[V any](a, b V) bool {
	return reflect.DeepEqual(a, b) || reflect.DeepEqual(plain(a), plain(b))
}

// plain makes each list of nothing nil.
func plain[V any](v V) V {
	plainly(reflect.ValueOf(&v).Elem())
	return v
}

func plainly(v reflect.Value) {
	switch v.Kind() {
	case reflect.Struct:
		for i := range v.NumField() {
			plainly(v.Field(i))
		}
	case reflect.Slice:
		if v.Len() == 0 {
			v.SetZero()
			return
		}
		fresh := reflect.MakeSlice(v.Type(), v.Len(), v.Len())
		reflect.Copy(fresh, v)
		for i := range fresh.Len() {
			plainly(fresh.Index(i))
		}
		v.Set(fresh)
	}
}

// shown is something as a line that is not too long.
func shown(v any) string {
	text := fmt.Sprintf("%+v", v)
	if m, ok := v.(api.Msg); ok && msg.Text(m) != "" {
		text = msg.Text(m)
	}
	return text[:min(len(text), 2000)]
}

// Frames.

// frameOf is the frame of a message that can be written.
func frameOf(m api.Msg) []byte {
	b, e := msg.Encode(m)
	if e != api.OK {
		panic("no frame: " + shown(m))
	}
	return b
}

func framesOf(l ...api.Msg) []byte {
	var b []byte
	for _, m := range l {
		b = append(b, frameOf(m)...)
	}
	return b
}

// raw is a frame of a kind, a tag and a body, whatever they are.
func raw(kind uint8, tag uint16, body ...byte) []byte {
	return append(append(sized(7+len(body)), kind, byte(tag), byte(tag>>8)), body...)
}

// sized is a frame's first four bytes.
func sized(size int) []byte {
	return []byte{byte(size), byte(size >> 8), byte(size >> 16), byte(size >> 24)}
}

// Requests, in short.

func aVersion(msize uint32) api.Msg {
	return api.Msg{Kind: api.Tversion, Tag: api.NoTag, Msize: msize, Version: "9P2000"}
}

func anAuth(afid uint32, user string) api.Msg {
	return api.Msg{Kind: api.Tauth, Tag: 2, Afid: afid, Uname: user}
}

func anAttach(fid uint32, user string) api.Msg { return attachBy(fid, noFid, user) }

func attachBy(fid, afid uint32, user string) api.Msg {
	return api.Msg{Kind: api.Tattach, Tag: 3, Fid: fid, Afid: afid, Uname: user}
}

func aFlush(old uint16) api.Msg { return api.Msg{Kind: api.Tflush, Tag: 13, Oldtag: old} }

func aWalk(fid, newfid uint32, names ...string) api.Msg {
	return api.Msg{Kind: api.Twalk, Tag: 4, Fid: fid, Newfid: newfid, Names: names}
}

func anOpen(fid uint32, mode uint8) api.Msg {
	return api.Msg{Kind: api.Topen, Tag: 5, Fid: fid, Mode: mode}
}

func aCreate(fid uint32, name string, perm uint32, mode uint8) api.Msg {
	return api.Msg{Kind: api.Tcreate, Tag: 6, Fid: fid, Name: name, Perm: perm, Mode: mode}
}

func aRead(fid uint32, offset uint64, count uint32) api.Msg {
	return api.Msg{Kind: api.Tread, Tag: 7, Fid: fid, Offset: offset, Count: count}
}

func aWrite(fid uint32, offset uint64, data string) api.Msg {
	return api.Msg{Kind: api.Twrite, Tag: 8, Fid: fid, Offset: offset, Data: []byte(data)}
}

func aClunk(fid uint32) api.Msg { return api.Msg{Kind: api.Tclunk, Tag: 9, Fid: fid} }

func aRemove(fid uint32) api.Msg { return api.Msg{Kind: api.Tremove, Tag: 10, Fid: fid} }

func aStat(fid uint32) api.Msg { return api.Msg{Kind: api.Tstat, Tag: 11, Fid: fid} }

func aWstat(fid uint32, turn func(*api.Stat)) api.Msg {
	want := stat.Keep()
	turn(&want)
	return api.Msg{Kind: api.Twstat, Tag: 12, Fid: fid, Stat: want}
}

func nothing(*api.Stat) {}

// requests are one of each kind.
func requests() []api.Msg {
	return []api.Msg{
		aVersion(8192), anAuth(1, "eve"), anAttach(2, "ann"), aFlush(1), aWalk(0, 3, "x"), anOpen(0, 0), aCreate(0, "new", 0666, 0),
		aRead(0, 0, 100), aWrite(0, 0, "abc"), aClunk(0), aRemove(0), aStat(0), aWstat(0, nothing),
	}
}

func oneOf[V any](rnd *rand.Rand, l ...V) V { return l[rnd.Intn(len(l))] }

// make makes a file or directory in the root by ann, and clunks the fid by which it was made; its path.
func (p pair) make(t *testing.T, conn int, name string, perm uint32) uint64 {
	t.Helper()
	p.done(t, conn, aWalk(0, 99))
	path := p.done(t, conn, aCreate(99, name, perm, 0)).Qid.Path
	p.done(t, conn, aClunk(99))
	return path
}
