package seq

import (
	"strings"

	"verger/api"
	"verger/auth"
	"verger/msg"
)

// unknown is the version that is answered where none was agreed on.
const unknown = "unknown"

// deed is a request that is being decided, and its plan, as far as that has come.
type deed struct {
	look
	plan api.Plan
}

// Decide is what a request comes to, as things stand. It changes nothing.
func (w *World) Decide(conn int, t api.Msg) (plan api.Plan) {
	d := &deed{look: w.look(conn, t)}
	defer func() {
		// What was planned to be done now, ahead of the refusal, is done all the same.
		if why := recover(); why != nil {
			reply := api.Msg{Kind: api.Rerror, Tag: t.Tag, Ename: why.(api.Errno).Error()}
			plan = api.Plan{Reply: reply, Now: d.plan.Now}
		}
	}()
	d.must(d.early())
	d.plan.Reply.Kind, _ = msg.Answer(t.Kind)
	d.plan.Reply.Tag = t.Tag
	requestOf(t.Kind).decide(d)
	return d.plan
}

// must gives up by an error: Decide recovers it, and the request is refused.
func (d *deed) must(e api.Errno) {
	if e != api.OK {
		panic(e)
	}
}

// refuse gives up by an error, if that is so.
func (d *deed) refuse(so bool, e api.Errno) {
	if so {
		panic(e)
	}
}

func (d *deed) now(l ...api.Piece) {
	d.plan.Now = append(d.plan.Now, l...)
}

func (d *deed) later(l ...api.Piece) {
	d.plan.Pieces = append(d.plan.Pieces, l...)
}

// mark says later who has changed a node, and when.
func (d *deed) mark(path uint64, user string) {
	d.later(setting(path, marks, api.Node{Mtime: d.w.now, Muid: user}))
}

// version decides a Tversion.
func (d *deed) version() {
	d.refuse(d.t.Msize < api.MinMsize, api.ErrMsize)
	msize := min(d.t.Msize, d.w.config.Msize)
	d.plan.Reply.Msize = msize
	d.plan.Reply.Version = api.Version
	if spoken, _, _ := strings.Cut(d.t.Version, "."); spoken != api.Version {
		d.plan.Reply.Version = unknown
		msize = 0
	}
	d.now(agreeing(msize))
}

// flush decides a Tflush: nothing is ever under way here.
func (d *deed) flush() {}

// mayAdd is the error by which a number can be none of a new fid. A table like the session's is asked, so that nothing is changed by it.
func (l look) mayAdd(fid uint32) api.Errno {
	return l.fids.Clone().Add(fid, api.Fid{State: api.FidShut})
}

func (l look) hasKey() bool {
	return l.w.users.Key(l.t.Uname) != ""
}

// auth decides a Tauth.
func (d *deed) auth() {
	t, u := d.t, d.w.users
	d.must(d.mayAdd(t.Afid))
	d.refuse(!u.Known(t.Uname), api.ErrUser)
	d.refuse(!d.hasKey(), api.ErrAuth)
	d.refuse(t.Aname != "", api.ErrTree)
	nth := d.w.auths[d.conn] + 1
	talk, e := auth.Begin(u, t.Uname, t.Aname, auth.Ours(d.w.config.Seed, d.conn, nth))
	d.must(e)
	d.plan.Reply.Qid = api.Qid{Kind: api.QidAuth, Vers: uint32(nth)}
	d.now(standing(t.Afid, api.Fid{State: api.FidAuth, User: t.Uname, Talk: talk}))
}

// attach decides a Tattach.
func (d *deed) attach() {
	t := d.t
	d.must(d.mayAdd(t.Fid))
	d.refuse(!d.w.users.Known(t.Uname), api.ErrUser)
	d.refuse(t.Aname != "", api.ErrTree)
	d.must(d.shown())
	root, _ := d.w.tree.Node(api.RootPath)
	d.plan.Reply.Qid = qid(root)
	d.now(standing(t.Fid, api.Fid{State: api.FidShut, Node: root.Path, User: t.Uname}))
}

// shown is the error by which it has not been shown who attaches. Who has no key has nothing to show, and must not try.
func (l look) shown() api.Errno {
	hasFid := l.t.Afid != api.NoFid
	if l.hasKey() != hasFid {
		return api.ErrAuth
	}
	if !hasFid {
		return api.OK
	}
	f, e := l.fids.Get(l.t.Afid)
	switch {
	case e != api.OK:
		return e
	case f.State != api.FidAuth || auth.Allows(f.Talk, l.t.Uname, l.t.Aname) != api.OK:
		return api.ErrAuth
	}
	return api.OK
}
