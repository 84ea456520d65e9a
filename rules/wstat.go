package rules

import (
	"verger/api"
	"verger/names"
	"verger/stat"
	"verger/users"
)

// change is what somebody asks to be changed of a node.
type change struct {
	who
	api.Facts
	want api.Stat
}

// Wstat tells how a node is behind a change of its record, if that may be.
func Wstat(t *users.Table, user string, f api.Facts, want api.Stat) (api.Node, api.Errno) {
	c := change{asks(t, user), f, want}
	touched := stat.Touched(want, Record(f.Node))
	changed := f.Node
	for _, row := range fields() {
		if touched&row.bit == 0 {
			continue
		}
		if e := row.refused(c); e != api.OK {
			return api.Node{}, e
		}
		row.set(&changed, want)
	}
	return changed, api.OK
}

// field is one of a record's fields: why it may not be changed (OK, if it may), and how that is done.
type field struct {
	bit     api.Fields
	refused func(change) api.Errno
	set     func(*api.Node, api.Stat)
}

// fields are all of them, in the record's order: the first one that is refused is told.
func fields() []field {
	return []field{
		{api.FieldType, change.refuseFixed, setNothing},
		{api.FieldDev, change.refuseFixed, setNothing},
		{api.FieldQidKind, change.refuseFixed, setNothing},
		{api.FieldQidVers, change.refuseFixed, setNothing},
		{api.FieldQidPath, change.refuseFixed, setNothing},
		{api.FieldMode, change.refuseMode, func(n *api.Node, want api.Stat) { n.Mode = want.Mode }},
		{api.FieldAtime, change.refuseFixed, setNothing},
		{api.FieldMtime, change.refuseMtime, func(n *api.Node, want api.Stat) { n.Mtime = want.Mtime }},
		{api.FieldLength, change.refuseLength, func(n *api.Node, want api.Stat) { n.Length = want.Length }},
		{api.FieldName, change.refuseName, func(n *api.Node, want api.Stat) { n.Name = want.Name }},
		{api.FieldUid, change.refuseFixed, setNothing},
		{api.FieldGid, change.refuseGid, func(n *api.Node, want api.Stat) { n.Gid = want.Gid }},
		{api.FieldMuid, change.refuseFixed, setNothing},
	}
}

// setNothing stands where a change is always refused.
func setNothing(*api.Node, api.Stat) {}

// refuseFixed is for what nobody changes by asking.
func (c change) refuseFixed() api.Errno {
	return api.ErrWstat
}

func (c change) refuseMode() api.Errno {
	switch {
	case !c.governs(c.Node):
		return api.ErrPerm
	case Perm(c.want.Mode) != api.OK || (c.want.Mode^c.Node.Mode)&api.ModeDir != 0:
		return api.ErrMode
	}
	return api.OK
}

func (c change) refuseMtime() api.Errno {
	if !c.governs(c.Node) {
		return api.ErrPerm
	}
	return api.OK
}

func (c change) refuseLength() api.Errno {
	switch {
	case isDir(c.Node):
		return api.ErrIsDir
	case !c.mayWrite(c.Node):
		return api.ErrPerm
	case c.want.Length > api.MaxFile:
		return api.ErrBig
	case c.Node.Mode&api.ModeAppend != 0 && c.want.Length < c.Node.Length:
		return api.ErrWstat
	}
	return api.OK
}

func (c change) refuseName() api.Errno {
	switch {
	case names.Check(c.want.Name) != api.OK:
		return api.ErrName
	case isRoot(c.Node) || !c.mayWrite(c.Parent):
		return api.ErrPerm
	case c.Taken:
		return api.ErrExists
	}
	return api.OK
}

func (c change) refuseGid() api.Errno {
	switch {
	case !c.table.Known(c.want.Gid):
		return api.ErrGroup
	case !c.mayGive(c.Node, c.want.Gid):
		return api.ErrPerm
	}
	return api.OK
}
