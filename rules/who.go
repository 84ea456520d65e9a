package rules

import (
	"verger/api"
	"verger/users"
)

// who is somebody who asks, and the table by which they are known.
type who struct {
	table *users.Table
	user  string
}

// asks says who asks. (Where there is no table, nobody is known.)
func asks(t *users.Table, user string) who {
	if t == nil {
		t, _, _ = users.Parse("")
	}
	return who{t, user}
}

// How far up in a mode the three rights of a class stand.
const (
	ownersPlace = 6
	groupsPlace = 3
	allsPlace   = 0
)

const allRights = api.RightRead | api.RightWrite | api.RightExec

// class is one of the three for which a mode has rights, and whether somebody is in it.
type class struct {
	place int
	in    bool
}

func (w who) classes(n api.Node) []class {
	return []class{
		{ownersPlace, w.user == n.Uid},
		{groupsPlace, w.table.Member(w.user, n.Gid)},
		{allsPlace, true},
	}
}

// rights are those of all classes in which somebody is, together.
func (w who) rights(n api.Node) uint8 {
	var rights uint8
	for _, c := range w.classes(n) {
		if c.in {
			rights |= uint8(n.Mode >> c.place & allRights)
		}
	}
	return rights
}

// may tells whether somebody has all of these rights.
func (w who) may(n api.Node, rights uint8) bool {
	return rights&^w.rights(n) == 0
}

func (w who) mayWrite(n api.Node) bool {
	return w.may(n, api.RightWrite)
}

// governs tells whether a node's mode and time are somebody's to change.
func (w who) governs(n api.Node) bool {
	return w.user == n.Uid || w.table.Leads(w.user, n.Gid)
}

// mayGive tells whether a node may come from its group to another one by somebody.
func (w who) mayGive(n api.Node, group string) bool {
	return w.user == n.Uid && w.table.Member(w.user, group) ||
		w.table.Leads(w.user, n.Gid) && w.table.Leads(w.user, group)
}
