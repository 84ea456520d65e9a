package seq_test

import (
	"encoding/json"
	"fmt"
	"reflect"
	"slices"
	"strings"
	"testing"

	"verger/api"
	"verger/auth"
	"verger/msg"
	"verger/rules"
	"verger/seq"
	"verger/stat"
	"verger/users"
)

// The model: what the chapter says, in other words than the package's, to hold the package against. A tree is a list of files in the order in which they were made, each with all of its bytes, and a session is a list of fids; a request is refused by the first reason of a list, and what is not refused is done at once, without plan or piece. What it would be planned as, and which locks it needs, stands beside it. (Who may do what, how one shows who they are, and how things are written as bytes is asked of the layers below.)

const (
	noFid = 4294967295
	shut  = 1
	open  = 2
	talks = 3

	dirBit    = 0x80000000
	appendBit = 0x40000000
	exclBit   = 0x20000000
	tmpBit    = 0x04000000
)

type file struct {
	is   api.Node // but for Length and Kids
	data []byte
}

type talk struct {
	msize int // 0: there is no session
	fids  []api.FidAt
}

type model struct {
	c     api.Config
	u     *users.Table
	now   uint32
	next  uint64
	files []file
	talks map[int]*talk
	auths map[int]int
}

func newModel(t *testing.T, c api.Config) *model {
	t.Helper()
	u, e, _ := users.Parse(c.Users)
	if e != api.OK {
		t.Fatalf("no users: %q", c.Users)
	}
	root := api.Node{Path: 1, Parent: 1, Name: "/", Mode: dirBit + c.Perm, Uid: c.Owner, Gid: c.Group, Muid: c.Owner}
	return &model{c: c, u: u, next: 2, files: []file{{is: root}}, talks: map[int]*talk{}, auths: map[int]int{}}
}

// on is what goes on at a connection.
func (m *model) on(conn int) *talk {
	if m.talks[conn] == nil {
		m.talks[conn] = &talk{}
	}
	return m.talks[conn]
}

func (m *model) file(path uint64) *file {
	for i := range m.files {
		if m.files[i].is.Path == path {
			return &m.files[i]
		}
	}
	return nil
}

func (m *model) there(path uint64) bool { return m.file(path) != nil }

func (m *model) node(path uint64) api.Node {
	f := m.file(path)
	if f == nil {
		return api.Node{}
	}
	n := f.is
	n.Length = uint64(len(f.data))
	n.Kids = len(m.kids(path))
	return n
}

func (m *model) kids(path uint64) []uint64 {
	var l []uint64
	for _, f := range m.files {
		if f.is.Parent == path && f.is.Path != 1 {
			l = append(l, f.is.Path)
		}
	}
	return l
}

// child is the path of a child; 0, if there is none.
func (m *model) child(path uint64, name string) uint64 {
	for _, kid := range m.kids(path) {
		if m.file(kid).is.Name == name {
			return kid
		}
	}
	return 0
}

func (m *model) facts(path, dir uint64, name string) api.Facts {
	n := m.node(path)
	return api.Facts{Node: n, Parent: m.node(n.Parent), Taken: m.child(dir, name) != 0, Full: len(m.files) == m.c.Nodes}
}

func (m *model) qid(path uint64) api.Qid { return rules.Record(m.node(path)).Qid }

func (k *talk) at(num uint32) int {
	return slices.IndexFunc(k.fids, func(f api.FidAt) bool { return f.Num == num })
}

func (k *talk) fid(num uint32) api.Fid {
	if k.at(num) < 0 {
		return api.Fid{}
	}
	return k.fids[k.at(num)].Fid
}

func (k *talk) drop(num uint32) {
	k.fids = slices.DeleteFunc(k.fids, func(f api.FidAt) bool { return f.Num == num })
}

// put makes a number stand for that, whatever it stood for; the list stays rising.
func (k *talk) put(num uint32, f api.Fid) {
	k.drop(num)
	k.fids = append(k.fids, api.FidAt{Num: num, Fid: f})
	slices.SortFunc(k.fids, func(a, b api.FidAt) int { return int(int64(a.Num) - int64(b.Num)) })
}

func (k *talk) iounit() int { return max(k.msize-24, 0) }

func (k *talk) most(t api.Msg) int { return min(k.iounit(), int(t.Count)) }

// reason is why a request is refused, if it is so.
type reason struct {
	is  bool
	why api.Errno
}

func first(l []reason) api.Errno {
	for _, r := range l {
		if r.is {
			return r.why
		}
	}
	return 0
}

func isRequest(k api.Kind) bool { return k >= 100 && k <= 126 && k%2 == 0 && k != 106 }

// ahead are the reasons that come ahead of what a kind asks.
func (m *model) ahead(conn int, t api.Msg) api.Errno {
	return first([]reason{{!isRequest(t.Kind), 32}, {msg.Size(t) == 0, 33}, {t.Kind != api.Tversion && m.on(conn).msize == 0, 121}})
}

// fresh are the reasons why a number can be none that is new.
func (m *model) fresh(k *talk, num uint32) []reason {
	return []reason{{num == noFid, 103}, {k.at(num) >= 0, 101}, {len(k.fids) == m.c.Fids, 102}}
}

// why is why a request is refused.
func (m *model) why(conn int, t api.Msg) api.Errno {
	if e := m.ahead(conn, t); e != 0 {
		return e
	}
	k := m.on(conn)
	f := k.fid(t.Fid)
	switch t.Kind {
	case api.Tflush:
		return 0
	case api.Tversion:
		return first([]reason{{t.Msize < 512, 122}})
	case api.Tauth, api.Tattach:
		return first(m.whyUser(k, t))
	case api.Tread, api.Twrite:
		if f.State == talks {
			return m.whyTalk(k, f, t)
		}
	}
	return first(append([]reason{{k.at(t.Fid) < 0, 100}}, m.whyFile(k, f, t)...))
}

// whyUser is why somebody can't begin to show who they are, or attach.
func (m *model) whyUser(k *talk, t api.Msg) []reason {
	noUser, noTree, noKey := reason{!m.u.Known(t.Uname), 114}, reason{t.Aname != "", 115}, m.u.Key(t.Uname) == ""
	if t.Kind == api.Tauth {
		return append(m.fresh(k, t.Afid), noUser, reason{noKey, 116}, noTree)
	}
	l := append(m.fresh(k, t.Fid), noUser, noTree)
	if noKey {
		return append(l, reason{t.Afid != noFid, 116})
	}
	shows := k.fid(t.Afid)
	return append(l, reason{t.Afid == noFid, 116}, reason{k.at(t.Afid) < 0, 100}, reason{shows.State != talks || auth.Allows(shows.Talk, t.Uname, t.Aname) != 0, 116})
}

// whyTalk is why an authentication is not read or written.
func (m *model) whyTalk(k *talk, f api.Fid, t api.Msg) api.Errno {
	if t.Kind == api.Tread {
		_, _, e := auth.Read(m.u, f.Talk, k.most(t))
		return e
	}
	_, _, e := auth.Write(m.u, f.Talk, t.Data)
	return e
}

// whyFile is why a request by a fid is refused that is there.
func (m *model) whyFile(k *talk, f api.Fid, t api.Msg) []reason {
	var e api.Errno
	is := m.facts(f.Node, f.Node, t.Name)
	isA, isG, isO := reason{f.State == talks, 116}, reason{!m.there(f.Node), 111}, reason{f.State == open, 112}
	switch t.Kind {
	case api.Twalk:
		var l []reason
		if t.Newfid != t.Fid {
			l = m.fresh(k, t.Newfid)
		}
		to, e := m.walk(f, t.Names)
		return append(l, isA, isG, isO, reason{e != 0 && len(to) == 0, e})
	case api.Topen:
		e = rules.Open(m.u, f.User, is, t.Mode)
		return []reason{isA, isG, isO, {e != 0, e}}
	case api.Tcreate:
		_, e = rules.Create(m.u, f.User, is, t.Name, t.Perm, t.Mode)
		return []reason{isA, isG, isO, {e != 0, e}}
	case api.Tread:
		kids := m.toTell(f, t)
		l := []reason{isG, {f.State != open || f.Mode == 1, 117}}
		if is.Node.Mode >= dirBit {
			l = append(l, reason{t.Offset != 0 && t.Offset != f.Told, 118}, reason{t.Count > 0 && len(kids) > 0 && len(m.record(kids[0])) > k.most(t), 119})
		}
		return l
	case api.Twrite:
		return []reason{isG, {f.State != open || f.Mode == 0 || f.Mode == 3, 117}, {len(t.Data) > 0 && m.goesTo(f, t) > 65536-uint64(len(t.Data)), 98}}
	case api.Tclunk:
		return nil
	case api.Tremove:
		e = rules.Remove(m.u, f.User, is)
	case api.Twstat:
		_, e = rules.Wstat(m.u, f.User, m.facts(f.Node, is.Node.Parent, t.Stat.Name), t.Stat)
	}
	return []reason{isA, isG, {e != 0, e}}
}

// walk is where the names lead from a fid, node by node, and why it goes no further.
func (m *model) walk(f api.Fid, names []string) ([]uint64, api.Errno) {
	if len(names) == 0 {
		return nil, 0
	}
	last := len(names) - 1
	to, e := m.walk(f, names[:last])
	if e != 0 {
		return to, e
	}
	here := append([]uint64{f.Node}, to...)[last]
	next := m.child(here, names[last])
	if names[last] == ".." {
		next = m.node(here).Parent
	}
	if e = rules.Step(m.u, f.User, m.node(here)); e == 0 && next == 0 {
		e = 113
	}
	if e != 0 {
		return to, e
	}
	return append(to, next), 0
}

func (m *model) record(path uint64) []byte {
	b, _ := stat.Encode(rules.Record(m.node(path)))
	return b
}

// toTell are the children that a read of a directory has still to tell.
func (m *model) toTell(f api.Fid, t api.Msg) []uint64 {
	return slices.DeleteFunc(m.kids(f.Node), func(path uint64) bool { return t.Offset > 0 && path <= f.Last })
}

// toldNow are those of them that it tells now, and their records.
func (m *model) toldNow(k *talk, f api.Fid, t api.Msg) ([]uint64, []byte) {
	var told []byte
	kids := m.toTell(f, t)
	for i, path := range kids {
		if told = append(told, m.record(path)...); len(told) > k.most(t) {
			return kids[:i], told[:len(told)-len(m.record(path))]
		}
	}
	return kids, told
}

// goesTo is where what is written goes to.
func (m *model) goesTo(f api.Fid, t api.Msg) uint64 {
	if n := m.node(f.Node); n.Mode&appendBit > 0 {
		return n.Length
	}
	return t.Offset
}

// Done at once.

// marks says who has changed a node, and when.
func (m *model) marks(path uint64, user string) {
	f := m.file(path)
	f.is.Vers, f.is.Mtime, f.is.Muid = f.is.Vers+1, m.now, user
}

func (m *model) remove(path uint64, user string) {
	dir := m.node(path).Parent
	m.files = slices.DeleteFunc(m.files, func(f file) bool { return f.is.Path == path })
	m.marks(dir, user)
}

// leave takes a fid out.
func (m *model) leave(k *talk, num uint32) {
	if f := k.fid(num); f.State == open && m.there(f.Node) {
		m.file(f.Node).is.Opens--
	}
	k.drop(num)
}

func (m *model) clunk(k *talk, num uint32) {
	f := k.fid(num)
	m.leave(k, num)
	if f.State == open && f.Remove && m.there(f.Node) && rules.Remove(m.u, f.User, m.facts(f.Node, 0, "")) == 0 {
		m.remove(f.Node, f.User)
	}
}

// ends ends a session.
func (m *model) ends(conn int) {
	k := m.on(conn)
	for len(k.fids) > 0 {
		m.clunk(k, k.fids[0].Num)
	}
	k.msize = 0
}

func resized(b []byte, size int) []byte {
	return append(slices.Clone(b), make([]byte, size)...)[:size:size]
}

func refusal(t api.Msg, e api.Errno) api.Msg {
	return api.Msg{Kind: api.Rerror, Tag: t.Tag, Ename: e.Error()}
}

// version is what is agreed on: the size, and whether it is the version that is spoken.
func (m *model) version(t api.Msg) (uint32, bool) {
	return min(t.Msize, m.c.Msize), t.Version == "9P2000" || strings.HasPrefix(t.Version, "9P2000.")
}

// do does a request, and tells what it answers.
func (m *model) do(conn int, t api.Msg) api.Msg {
	k := m.on(conn)
	f := k.fid(t.Fid)
	if e := m.why(conn, t); e != 0 {
		if t.Kind == api.Tremove && m.ahead(conn, t) == 0 {
			m.leave(k, t.Fid)
		}
		return refusal(t, e)
	}
	r := api.Msg{Kind: t.Kind + 1, Tag: t.Tag}
	switch t.Kind {
	case api.Tversion:
		m.ends(conn)
		size, spoken := m.version(t)
		if r.Msize, r.Version = size, "unknown"; spoken {
			k.msize, r.Version = int(size), "9P2000"
		}
	case api.Tauth:
		m.auths[conn]++
		said, _ := auth.Begin(m.u, t.Uname, "", auth.Ours(m.c.Seed, conn, m.auths[conn]))
		k.put(t.Afid, api.Fid{State: talks, User: t.Uname, Talk: said})
		r.Qid = api.Qid{Kind: 8, Vers: uint32(m.auths[conn])}
	case api.Tattach:
		k.put(t.Fid, api.Fid{State: shut, Node: 1, User: t.Uname})
		r.Qid = m.qid(1)
	case api.Twalk:
		to, e := m.walk(f, t.Names)
		for _, path := range to {
			r.Qids = append(r.Qids, m.qid(path))
		}
		if e == 0 {
			k.put(t.Newfid, api.Fid{State: shut, Node: append([]uint64{f.Node}, to...)[len(to)], User: f.User})
		}
	case api.Topen, api.Tcreate:
		at := m.open(k, f, t)
		r.Qid, r.Iounit = m.qid(at), uint32(k.iounit())
	case api.Tread:
		r.Data = m.read(k, f, t)
	case api.Twrite:
		m.write(k, f, t)
		r.Count = uint32(len(t.Data))
	case api.Tclunk:
		m.clunk(k, t.Fid)
	case api.Tremove:
		m.leave(k, t.Fid)
		m.remove(f.Node, f.User)
	case api.Tstat:
		r.Stat = rules.Record(m.node(f.Node))
	case api.Twstat:
		m.wstat(f, t.Stat)
	}
	return r
}

// open opens a file, or makes one that is open, and tells its path.
func (m *model) open(k *talk, f api.Fid, t api.Msg) uint64 {
	at := f.Node
	if t.Kind == api.Tcreate {
		at = m.next
		m.next++
		made, _ := rules.Create(m.u, f.User, m.facts(f.Node, f.Node, t.Name), t.Name, t.Perm, t.Mode)
		m.files = append(m.files, file{is: api.Node{Path: at, Parent: f.Node, Name: t.Name, Mode: made.Mode, Uid: f.User, Gid: m.node(f.Node).Gid, Muid: f.User, Mtime: m.now}})
		m.marks(f.Node, f.User)
	}
	n := m.file(at)
	n.is.Opens++
	n.is.Atime = m.now
	if t.Kind == api.Topen && t.Mode&0x10 > 0 && n.is.Mode&appendBit == 0 {
		n.data = nil
		m.marks(at, f.User)
	}
	k.put(t.Fid, api.Fid{State: open, Node: at, User: f.User, Mode: t.Mode % 4, Remove: t.Mode&0x40 > 0})
	return at
}

func (m *model) read(k *talk, f api.Fid, t api.Msg) []byte {
	var told []byte
	switch n := m.node(f.Node); {
	case f.State == talks:
		f.Talk, told, _ = auth.Read(m.u, f.Talk, k.most(t))
		k.put(t.Fid, f)
	case n.Mode >= dirBit:
		var kids []uint64
		if kids, told = m.toldNow(k, f, t); t.Offset == 0 {
			f.Last = 0
		}
		if f.Told = t.Offset + uint64(len(told)); len(kids) > 0 {
			f.Last = kids[len(kids)-1]
		}
		k.put(t.Fid, f)
	case t.Offset < n.Length:
		told = m.file(f.Node).data[t.Offset:]
		told = told[:min(len(told), k.most(t))]
	}
	return told
}

func (m *model) write(k *talk, f api.Fid, t api.Msg) {
	if f.State == talks {
		f.Talk, _, _ = auth.Write(m.u, f.Talk, t.Data)
		k.put(t.Fid, f)
	} else if len(t.Data) > 0 {
		n, at := m.file(f.Node), int(m.goesTo(f, t))
		n.data = resized(n.data, max(len(n.data), at+len(t.Data)))
		copy(n.data[at:], t.Data)
		m.marks(f.Node, f.User)
	}
}

func (m *model) wstat(f api.Fid, want api.Stat) {
	was, n := m.node(f.Node), m.file(f.Node)
	is := stat.Over(want, rules.Record(was))
	if was.Mode < dirBit && is.Length != was.Length {
		n.data = resized(n.data, int(is.Length))
		m.marks(f.Node, f.User)
	}
	if is.Mtime != was.Mtime {
		n.is.Mtime = is.Mtime
	}
	n.is.Mode, n.is.Gid, n.is.Name = is.Mode, is.Gid, is.Name
	if is.Name != was.Name {
		m.marks(was.Parent, f.User)
	}
}

// What a request is planned as.

func op(o api.Op) api.Piece { return api.Piece{Kind: 1, Op: o} }

func opens(path uint64, n int) api.Piece { return op(api.Op{Kind: 7, Path: path, N: n}) }

func isNow(num uint32, f api.Fid) api.Piece { return api.Piece{Kind: 2, Fid: num, State: f} }

func set(path uint64, mask api.Mask, n api.Node) api.Piece {
	return op(api.Op{Kind: 4, Path: path, Mask: mask, Node: n})
}

const bump = 1<<6 | 1<<5 | 1<<3

// marked is a node marked by a user.
func (m *model) marked(path uint64, user string) api.Piece {
	return set(path, bump, api.Node{Mtime: m.now, Muid: user})
}

// leaving is a fid that is no more.
func (m *model) leaving(num uint32, f api.Fid) []api.Piece {
	l := []api.Piece{{Kind: 3, Fid: num}}
	if f.State == open && m.there(f.Node) {
		l = append(l, opens(f.Node, -1))
	}
	return l
}

// plan is what a request comes to. What it answers is what a model like this one answers to it, but that of a tree nothing is told yet; how fids are then is as they are there.
func (m *model) plan(conn int, t api.Msg) api.Plan {
	behind := m.clone()
	p := api.Plan{Reply: behind.do(conn, t)}
	k := m.on(conn)
	f := k.fid(t.Fid)
	n := m.node(f.Node)
	if p.Reply.Kind == api.Rerror {
		if t.Kind == api.Tremove && m.ahead(conn, t) == 0 && k.at(t.Fid) >= 0 {
			p.Now = m.leaving(t.Fid, f)
		}
		return p
	}
	will := func(num uint32) api.Piece { return isNow(num, behind.on(conn).fid(num)) }
	switch t.Kind {
	case api.Tversion:
		p.Now = []api.Piece{{Kind: 6, Count: behind.on(conn).msize}}
	case api.Tauth:
		p.Now = []api.Piece{will(t.Afid)}
	case api.Tattach:
		p.Now = []api.Piece{will(t.Fid)}
	case api.Twalk:
		if len(p.Reply.Qids) == len(t.Names) {
			p.Now = []api.Piece{will(t.Newfid)}
		}
	case api.Topen:
		p.Now = []api.Piece{opens(f.Node, 1), will(t.Fid)}
		p.Pieces = []api.Piece{set(f.Node, 1<<4, api.Node{Atime: m.now})}
		if t.Mode&0x10 > 0 && n.Mode&appendBit == 0 {
			p.Pieces = []api.Piece{op(api.Op{Kind: 5, Path: f.Node}), set(f.Node, 1<<4|bump, api.Node{Atime: m.now, Mtime: m.now, Muid: f.User})}
		}
	case api.Tcreate:
		made := behind.node(m.next)
		p.Now = []api.Piece{op(api.Op{Kind: 1, Path: f.Node, Node: api.Node{Name: made.Name, Mode: made.Mode, Uid: made.Uid, Gid: made.Gid, Muid: made.Muid, Atime: m.now, Mtime: m.now}}), opens(m.next, 1), will(t.Fid)}
		p.Pieces = []api.Piece{m.marked(f.Node, f.User)}
	case api.Tread, api.Twrite:
		m.planData(&p, will(t.Fid), k, f, t)
	case api.Tclunk:
		p.Now = m.leaving(t.Fid, f)
		if m.there(f.Node) && !behind.there(f.Node) {
			p.Now = append(p.Now, op(api.Op{Kind: 2, Path: f.Node}))
			p.Pieces = []api.Piece{m.marked(n.Parent, f.User)}
		}
	case api.Tremove:
		p.Now = append(m.leaving(t.Fid, f), op(api.Op{Kind: 2, Path: f.Node}))
		p.Pieces = []api.Piece{m.marked(n.Parent, f.User)}
	case api.Twstat:
		p.Pieces = m.planWstat(n, behind.node(f.Node), f.User)
	}
	return p
}

// planData plans to read or to write.
func (m *model) planData(p *api.Plan, will api.Piece, k *talk, f api.Fid, t api.Msg) {
	if f.State == talks {
		p.Now = []api.Piece{will}
		return
	}
	told, data, at := p.Reply.Data, t.Data, int(m.goesTo(f, t))
	p.Reply.Data = nil
	if t.Kind == api.Tread {
		data, at = nil, int(t.Offset)
	}
	if t.Kind == api.Tread && m.node(f.Node).Mode >= dirBit {
		p.Now = []api.Piece{will}
		kids, _ := m.toldNow(k, f, t)
		for _, path := range kids {
			p.Pieces = append(p.Pieces, api.Piece{Kind: 5, Op: api.Op{Path: path}})
		}
		return
	}
	// Place by place, each belongs to the piece of its block.
	for i := range max(len(told), len(data)) {
		if place := uint64(at + i); i == 0 || place%256 == 0 {
			p.Pieces = append(p.Pieces, api.Piece{Kind: 4, Op: api.Op{Path: f.Node}, Offset: place})
			if len(data) > 0 {
				p.Pieces[len(p.Pieces)-1] = op(api.Op{Kind: 6, Path: f.Node, Offset: place})
			}
		}
		last := &p.Pieces[len(p.Pieces)-1]
		if len(data) > 0 {
			last.Op.Data = append(last.Op.Data, data[i])
		} else {
			last.Count++
		}
	}
	if len(data) > 0 {
		p.Pieces = append(p.Pieces, m.marked(f.Node, f.User))
	}
}

// planWstat plans that a node comes to be another one.
func (m *model) planWstat(n, to api.Node, user string) []api.Piece {
	var l []api.Piece
	var mask api.Mask
	var is api.Node
	if n.Length != to.Length {
		l = append(l, op(api.Op{Kind: 5, Path: n.Path, Offset: to.Length}))
		mask, is.Mtime, is.Muid = bump, to.Mtime, user
	}
	if n.Name != to.Name {
		l = append(l, op(api.Op{Kind: 3, Path: n.Path, Name: to.Name}))
	}
	if n.Mode != to.Mode {
		mask, is.Mode = mask|1, to.Mode
	}
	if n.Gid != to.Gid {
		mask, is.Gid = mask|4, to.Gid
	}
	if n.Mtime != to.Mtime {
		mask, is.Mtime = mask|32, to.Mtime
	}
	if mask > 0 {
		l = append(l, set(n.Path, mask, is))
	}
	if n.Name != to.Name {
		l = append(l, m.marked(n.Parent, user))
	}
	return l
}

// foot are the locks that a request needs: one after the other as the chapter's tables name them, then each once.
func (m *model) foot(conn int, t api.Msg) []api.Need {
	if m.ahead(conn, t) != 0 {
		return nil
	}
	var l []api.Need
	fid := func(num uint32, alone bool) {
		l = append(l, api.Need{Lock: api.Lock{Kind: 1, Conn: conn, Num: uint64(num)}, Alone: alone})
	}
	node := func(path uint64, alone bool) {
		l = append(l, api.Need{Lock: api.Lock{Kind: 3, Num: path}, Alone: alone})
	}
	switch t.Kind {
	case api.Tversion, api.Tflush:
		return nil
	case api.Tauth:
		fid(t.Afid, true)
		return l
	case api.Tattach:
		if fid(t.Fid, true); t.Afid != noFid {
			fid(t.Afid, false)
		}
		node(1, false)
		return once(l)
	case api.Twalk:
		fid(t.Newfid, true)
		fid(t.Fid, false)
	default:
		fid(t.Fid, t.Kind != api.Tstat && t.Kind != api.Twstat)
	}
	k := m.on(conn)
	if f := k.fid(t.Fid); k.at(t.Fid) >= 0 && f.State != talks {
		m.footOfNodes(conn, f, t, node)
	}
	return once(l)
}

func (m *model) footOfNodes(conn int, f api.Fid, t api.Msg, node func(uint64, bool)) {
	n, there := m.node(f.Node), m.there(f.Node)
	parent := func(asked, alone bool) {
		if asked && there {
			node(n.Parent, alone)
		}
	}
	if t.Kind != api.Tclunk || f.State == open {
		node(f.Node, t.Kind != api.Twalk && t.Kind != api.Tread && t.Kind != api.Tstat)
	}
	switch t.Kind {
	case api.Twalk:
		if to, _ := m.walk(f, t.Names); there && f.State == shut {
			for _, path := range to {
				node(path, false)
			}
		}
	case api.Topen:
		parent(t.Mode&0x40 > 0, false)
	case api.Tread:
		e, kids := m.why(conn, t), m.toTell(f, t)
		told, _ := m.toldNow(m.on(conn), f, t)
		if n.Mode >= dirBit && (e == 0 && len(told) > 0 || e == 119) {
			for _, path := range kids[:min(len(told)+1, len(kids))] {
				node(path, false)
			}
		}
	case api.Tclunk:
		parent(f.State == open && f.Remove, true)
	case api.Tremove:
		parent(true, true)
	case api.Twstat:
		parent(t.Stat.Name != "" && t.Stat.Name != n.Name, true)
	}
}

// once are needs, each lock once, the lowest first.
func once(l []api.Need) []api.Need {
	var rising []api.Need
	for _, n := range l {
		at := slices.IndexFunc(rising, func(o api.Need) bool { return o.Lock == n.Lock })
		if at < 0 {
			rising = append(rising, n)
		} else if n.Alone {
			rising[at].Alone = true
		}
	}
	slices.SortFunc(rising, func(a, b api.Need) int {
		if below(a.Lock, b.Lock) {
			return -1
		}
		return 1
	})
	return rising
}

func below(a, b api.Lock) bool {
	if a.Kind != b.Kind {
		return a.Kind < b.Kind
	}
	if a.Conn != b.Conn {
		return a.Conn < b.Conn
	}
	return a.Num < b.Num
}

func (m *model) clone() *model {
	c := *m
	c.files = nil
	for _, f := range m.files {
		c.files = append(c.files, file{f.is, slices.Clone(f.data)})
	}
	c.talks, c.auths = map[int]*talk{}, map[int]int{}
	for conn, k := range m.talks {
		c.talks[conn] = &talk{k.msize, slices.Clone(k.fids)}
	}
	for conn, n := range m.auths {
		c.auths[conn] = n
	}
	return &c
}

// all is what there is to be seen of a world.
type all struct {
	now   uint32
	nodes []api.Node
	data  []string
	talks map[int]talk
}

func (m *model) all(conns []int) all {
	a := all{now: m.now, talks: map[int]talk{}}
	for _, f := range m.files {
		a.nodes, a.data = append(a.nodes, m.node(f.is.Path)), append(a.data, string(f.data))
	}
	for _, conn := range conns {
		a.talks[conn] = talk{m.on(conn).msize, slices.Clone(m.on(conn).fids)}
	}
	return a
}

func allOf(w *seq.World, conns []int) all {
	a := all{now: w.Now(), talks: map[int]talk{}}
	for _, n := range w.Nodes() {
		a.nodes, a.data = append(a.nodes, n), append(a.data, string(w.Content(n.Path)))
	}
	for _, conn := range conns {
		a.talks[conn] = talk{int(w.Msize(conn)), w.Fids(conn)}
	}
	return a
}

// plain makes each list of nothing nil, so that things can be held against one another.
func plain[V any](v V) V {
	value := reflect.ValueOf(&v).Elem()
	plainly(value)
	return v
}

func plainly(v reflect.Value) {
	switch v.Kind() {
	case reflect.Struct:
		for i := range v.NumField() {
			if v.Type().Field(i).IsExported() {
				plainly(v.Field(i))
			}
		}
	case reflect.Slice:
		if v.Len() == 0 {
			v.SetZero()
			return
		}
		fresh := reflect.MakeSlice(v.Type(), v.Len(), v.Len())
		reflect.Copy(fresh, v)
		for i := range fresh.Len() {
			plainly(fresh.Index(i))
		}
		v.Set(fresh)
	}
}

func same[V any](a, b V) bool {
	return reflect.DeepEqual(a, b) || reflect.DeepEqual(plain(a), plain(b))
}

func sameAll(a, b all) bool {
	return a.now == b.now && slices.Equal(a.nodes, b.nodes) && slices.Equal(a.data, b.data) && sameTalks(a.talks, b.talks)
}

func sameTalks(a, b map[int]talk) bool {
	if len(a) != len(b) {
		return false
	}
	for conn, k := range a {
		if k.msize != b[conn].msize || !same(k.fids, b[conn].fids) {
			return false
		}
	}
	return true
}

// shown is something as a line that is not too long.
func shown(v any) string {
	text := fmt.Sprintf("%+v", v)
	if b, err := json.Marshal(v); err == nil && len(text) > 3000 {
		text = string(b)
	}
	return strings.ToValidUTF8(text[:min(len(text), 3000)], "?")
}
