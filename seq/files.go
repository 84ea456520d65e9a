package seq

import (
	"verger/api"
	"verger/rules"
)

const openHow = 3 // of a mode of opening: its two lowest bits

// found is where the request's fid stands; one that is not in the table is refused.
func (d *deed) found() spot {
	s, e := d.spot()
	d.must(e)
	return s
}

// mustBeThere asks that a fid stands at a node.
func (d *deed) mustBeThere(s spot) {
	d.refuse(s.fid.State == api.FidAuth, api.ErrAuth)
	d.refuse(!s.there, api.ErrGone)
}

// mustBeShut asks that a fid only stands at a node.
func (d *deed) mustBeShut(s spot) {
	d.mustBeThere(s)
	d.refuse(s.fid.State == api.FidOpen, api.ErrOpen)
}

// walk decides a Twalk.
func (d *deed) walk() {
	s := d.found()
	d.must(d.fids.Room(d.t.Fid, d.t.Newfid))
	d.mustBeShut(s)
	to, e := d.follow(s)
	d.refuse(len(to) == 0 && e != api.OK, e)
	at := s.node
	for _, n := range to {
		d.plan.Reply.Qids = append(d.plan.Reply.Qids, qid(n))
		at = n
	}
	if e == api.OK {
		d.now(standing(d.t.Newfid, api.Fid{State: api.FidShut, Node: at.Path, User: s.fid.User}))
	}
}

// openFid is the request's fid, open at a node as it asks.
func (d *deed) openFid(user string, path uint64) api.Piece {
	how, remove := d.t.Mode&openHow, d.t.Mode&api.OpenRclose != 0
	return standing(d.t.Fid, api.Fid{State: api.FidOpen, Node: path, User: user, Mode: how, Remove: remove})
}

// open decides a Topen.
func (d *deed) open() {
	s := d.found()
	d.mustBeShut(s)
	n, user := s.node, s.fid.User
	d.must(rules.Open(d.w.users, user, d.facts(n), d.t.Mode))
	d.now(opening(n.Path, 1), d.openFid(user, n.Path))
	if d.t.Mode&api.OpenTrunc != 0 && n.Mode&api.ModeAppend == 0 {
		d.later(cutting(n.Path, 0), setting(n.Path, api.MaskAtime|marks, api.Node{Atime: d.w.now, Mtime: d.w.now, Muid: user}))
		n.Vers++ // as it is told: behind all that comes later
	} else {
		d.later(setting(n.Path, api.MaskAtime, api.Node{Atime: d.w.now}))
	}
	d.plan.Reply.Qid = qid(n)
	d.plan.Reply.Iounit = d.iounit()
}

// create decides a Tcreate.
func (d *deed) create() {
	s := d.found()
	d.mustBeShut(s)
	t, dir, user := d.t, s.node.Path, s.fid.User
	n, e := rules.Create(d.w.users, user, d.factsOfName(s.node, dir, t.Name), t.Name, t.Perm, t.Mode)
	d.must(e)
	made := api.Node{Name: n.Name, Mode: n.Mode, Uid: n.Uid, Gid: n.Gid, Muid: n.Muid, Atime: d.w.now, Mtime: d.w.now}
	n.Path = d.w.tree.Next()
	d.now(doing(api.Op{Kind: api.OpMake, Path: dir, Node: made}), opening(n.Path, 1), d.openFid(user, n.Path))
	d.mark(dir, user)
	d.plan.Reply.Qid = qid(n)
	d.plan.Reply.Iounit = d.iounit()
}

// clunk decides a Tclunk.
func (d *deed) clunk() {
	s := d.found()
	d.leave(s)
	if s.openThere() && s.fid.Remove && rules.Closes(d.w.users, s.fid.User, d.facts(s.node)) {
		d.drop(s)
	}
}

// remove decides a Tremove: the fid is no more, whether the file may be removed or not.
func (d *deed) remove() {
	s := d.found()
	d.leave(s)
	d.mustBeThere(s)
	d.must(rules.Remove(d.w.users, s.fid.User, d.facts(s.node)))
	d.drop(s)
}

// leave ends the request's fid.
func (d *deed) leave(s spot) {
	d.now(ending(d.t.Fid))
	if s.openThere() {
		d.now(opening(s.node.Path, -1))
	}
}

// drop removes the node at which a fid stands.
func (d *deed) drop(s spot) {
	d.now(dropping(s.node.Path))
	d.mark(s.node.Parent, s.fid.User)
}

// stat decides a Tstat.
func (d *deed) stat() {
	s := d.found()
	d.mustBeThere(s)
	d.plan.Reply.Stat = rules.Record(s.node)
}

// wstat decides a Twstat.
func (d *deed) wstat() {
	s := d.found()
	d.mustBeThere(s)
	n, user := s.node, s.fid.User
	to, e := rules.Wstat(d.w.users, user, d.factsOfName(n, n.Parent, d.t.Stat.Name), d.t.Stat)
	d.must(e)
	if to.Length != n.Length {
		d.later(cutting(n.Path, to.Length))
	}
	if to.Name != n.Name {
		d.later(doing(api.Op{Kind: api.OpName, Path: n.Path, Name: to.Name}))
	}
	if mask, set := d.turned(n, to, user); mask != 0 {
		d.later(setting(n.Path, mask, set))
	}
	if to.Name != n.Name {
		d.mark(n.Parent, user)
	}
}

// turned is what is to be set of a node, so that it is as it has been asked for.
func (d *deed) turned(n, to api.Node, user string) (api.Mask, api.Node) {
	var mask api.Mask
	var set api.Node
	if to.Length != n.Length {
		mask = marks
		set.Mtime, set.Muid = d.w.now, user
	}
	if to.Mode != n.Mode {
		mask |= api.MaskMode
		set.Mode = to.Mode
	}
	if to.Gid != n.Gid {
		mask |= api.MaskGid
		set.Gid = to.Gid
	}
	if to.Mtime != n.Mtime { // a time that is asked for counts before the clock
		mask |= api.MaskMtime
		set.Mtime = to.Mtime
	}
	return mask, set
}
