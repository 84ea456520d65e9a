package seq

import (
	"cmp"
	"maps"
	"slices"

	"verger/api"
	"verger/rules"
	"verger/stat"
)

const (
	alone    = true
	together = false
)

// foot is the locks that a request needs, as far as they were found.
type foot struct {
	look
	needs map[api.Lock]api.Need
}

// Foot is what a request touches, as things stand.
func (w *World) Foot(conn int, t api.Msg) []api.Need {
	f := &foot{w.look(conn, t), map[api.Lock]api.Need{}}
	r := requestOf(t.Kind)
	if f.early() != api.OK || r.named == nil {
		return nil
	}
	r.named(f)
	if r.nodes != nil {
		f.reach(r.nodes)
	}
	return slices.SortedFunc(maps.Values(f.needs), rising)
}

// reach finds the nodes that are touched, if the request's fid stands at one.
func (f *foot) reach(nodes func(*foot, spot)) {
	s, e := f.spot()
	if e == api.OK && s.fid.State != api.FidAuth {
		nodes(f, s)
	}
}

// rising is the order in which locks are asked for.
func rising(a, b api.Need) int {
	return cmp.Or(cmp.Compare(a.Lock.Kind, b.Lock.Kind), cmp.Compare(a.Lock.Conn, b.Lock.Conn), cmp.Compare(a.Lock.Num, b.Lock.Num))
}

// need adds a need. A lock that is needed together and alone is needed alone.
func (f *foot) need(n api.Need) {
	if other, named := f.needs[n.Lock]; named && other != n {
		n.Alone = alone
	}
	f.needs[n.Lock] = n
}

func (f *foot) needFid(num uint32, how bool) {
	f.need(api.Need{Lock: api.Lock{Kind: api.LockFid, Conn: f.conn, Num: uint64(num)}, Alone: how})
}

func (f *foot) needNode(path uint64, how bool) {
	f.need(api.Need{Lock: api.Lock{Kind: api.LockNode, Num: path}, Alone: how})
}

// What each kind of request names itself.

func (f *foot) ofAuth() {
	f.needFid(f.t.Afid, alone)
}

func (f *foot) ofAttach() {
	f.needFid(f.t.Fid, alone)
	if f.t.Afid != api.NoFid {
		f.needFid(f.t.Afid, together)
	}
	f.needNode(api.RootPath, together)
}

func (f *foot) ofWalk() {
	f.needFid(f.t.Fid, together)
	f.needFid(f.t.Newfid, alone)
}

func (f *foot) fidAlone() {
	f.needFid(f.t.Fid, alone)
}

func (f *foot) fidTogether() {
	f.needFid(f.t.Fid, together)
}

// Which nodes each kind touches, as things stand. The path of a node that is gone is needed, too: that it is gone is looked at.

func (f *foot) nodeAlone(s spot) {
	f.needNode(s.fid.Node, alone)
}

func (f *foot) nodeTogether(s spot) {
	f.needNode(s.fid.Node, together)
}

// parent is touched, if a node is there.
func (f *foot) parent(s spot, how bool) {
	if s.there {
		f.needNode(s.node.Parent, how)
	}
}

func (f *foot) atWalk(s spot) {
	f.nodeTogether(s)
	if !s.there || s.fid.State != api.FidShut {
		return
	}
	to, _ := f.follow(s)
	for _, n := range to {
		f.needNode(n.Path, together)
	}
}

func (f *foot) atOpen(s spot) {
	f.nodeAlone(s)
	if f.t.Mode&api.OpenRclose != 0 {
		f.parent(s, together)
	}
}

func (f *foot) atRead(s spot) {
	f.nodeTogether(s)
	if f.mayRead(s) != api.OK || !isDir(s.node) || f.t.Count == 0 {
		return
	}
	l := f.list(s)
	for _, path := range l.told {
		f.needNode(path, together)
	}
	if l.more { // how much room its record needs has been looked at
		f.needNode(l.next, together)
	}
}

func (f *foot) atClunk(s spot) {
	if s.fid.State != api.FidOpen {
		return
	}
	f.nodeAlone(s)
	if s.fid.Remove {
		f.parent(s, alone)
	}
}

func (f *foot) atRemove(s spot) {
	f.nodeAlone(s)
	f.parent(s, alone)
}

func (f *foot) atWstat(s spot) {
	f.nodeAlone(s)
	if stat.Touched(f.t.Stat, rules.Record(s.node))&api.FieldName != 0 {
		f.parent(s, alone)
	}
}
