package seq

import (
	"verger/api"
	"verger/msg"
	"verger/rules"
	"verger/stat"
)

const dotdot = ".."

// look is a request, and what its decision and its foot go by.
type look struct {
	session
	w    *World
	conn int
	t    api.Msg
}

func (w *World) look(conn int, t api.Msg) look {
	return look{session: w.sessions[conn], w: w, conn: conn, t: t}
}

// early is the error by which a request is refused, whatever its kind asks.
func (l look) early() api.Errno {
	_, isRequest := msg.Answer(l.t.Kind)
	_, has := l.w.sessions[l.conn]
	switch {
	case !isRequest:
		return api.ErrMsgKind
	case msg.Size(l.t) == 0:
		return api.ErrMsgBody
	case !has && l.t.Kind != api.Tversion:
		return api.ErrSession
	}
	return api.OK
}

// spot is where a fid stands.
type spot struct {
	fid   api.Fid
	node  api.Node // of noughts, if it is gone
	there bool
}

// spot is where the request's fid stands.
func (l look) spot() (spot, api.Errno) {
	f, e := l.fids.Get(l.t.Fid)
	if e != api.OK {
		return spot{}, e
	}
	n, there := l.w.tree.Node(f.Node)
	return spot{f, n, there}, api.OK
}

// openThere tells whether the fid is open at a node that is there.
func (s spot) openThere() bool {
	return s.fid.State == api.FidOpen && s.there
}

func isDir(n api.Node) bool {
	return n.Mode&api.ModeDir != 0
}

func qid(n api.Node) api.Qid {
	return rules.Record(n).Qid
}

// facts are those of a node.
func (l look) facts(n api.Node) api.Facts {
	parent, _ := l.w.tree.Node(n.Parent)
	return api.Facts{Node: n, Parent: parent, Full: l.w.tree.Count() == l.w.config.Nodes}
}

// factsOfName are those of a node, where something is to be called so in a directory.
func (l look) factsOfName(n api.Node, dir uint64, name string) api.Facts {
	f := l.facts(n)
	_, f.Taken = l.w.tree.Child(dir, name)
	return f
}

// follow goes on by the request's names: the nodes come to, and the error by which the name behind these is refused.
func (l look) follow(from spot) ([]api.Node, api.Errno) {
	var to []api.Node
	here := from.node
	for _, name := range l.t.Names {
		next, e := l.step(from.fid.User, here, name)
		if e != api.OK {
			return to, e
		}
		to = append(to, next)
		here = next
	}
	return to, api.OK
}

// step goes on by one name.
func (l look) step(user string, here api.Node, name string) (api.Node, api.Errno) {
	if e := rules.Step(l.w.users, user, here); e != api.OK {
		return api.Node{}, e
	}
	path, is := here.Parent, true
	if name != dotdot {
		path, is = l.w.tree.Child(here.Path, name)
	}
	if !is {
		return api.Node{}, api.ErrNone
	}
	next, _ := l.w.tree.Node(path)
	return next, api.OK
}

// most is how many bytes a read may tell.
func (l look) most() int {
	return int(min(l.t.Count, l.iounit()))
}

// mayRead is the error by which a read is refused, whatever there is to be told.
func (l look) mayRead(s spot) api.Errno {
	switch {
	case !s.there:
		return api.ErrGone
	case s.fid.State != api.FidOpen || s.fid.Mode == api.OpenWrite:
		return api.ErrShut
	case isDir(s.node) && l.t.Offset != 0 && l.t.Offset != s.fid.Told:
		return api.ErrPlace
	}
	return api.OK
}

// listing is what a read of a directory tells.
type listing struct {
	told []uint64 // the children whose records fit
	size int      // how many bytes these records have
	last uint64   // the last one told, of this read or of those ahead of it
	next uint64   // the child behind these
	more bool     // there is one
}

// list goes on with a directory's children, as far as their records fit.
func (l look) list(s spot) listing {
	found := listing{last: s.fid.Last}
	if l.t.Offset == 0 {
		found.last = 0
	}
	for l.seek(s.node.Path, &found) {
		n, _ := l.w.tree.Node(found.next)
		size := stat.Size(rules.Record(n))
		if size > l.most()-found.size {
			break
		}
		found.told = append(found.told, n.Path)
		found.size += size
		found.last = n.Path
	}
	return found
}

// seek finds the child behind the last one told.
func (l look) seek(dir uint64, found *listing) bool {
	found.next, found.more = l.w.tree.After(dir, found.last)
	return found.more
}
