package nodes

import (
	"verger/api"
	"verger/names"
)

// Do does one operation: the path (of OpMake the new one).
func (s *Store) Do(o api.Op) (uint64, api.Errno) {
	switch o.Kind {
	case api.OpMake:
		return s.atTable(o, (*Store).doMake)
	case api.OpDrop:
		return s.atTable(o, (*Store).doDrop)
	case api.OpName:
		return s.atTable(o, (*Store).doName)
	case api.OpSet:
		return s.atNode(o, (*node).doSet)
	case api.OpCut:
		return s.atNode(o, (*node).doCut)
	case api.OpBytes:
		return s.atNode(o, (*node).doBytes)
	case api.OpOpens:
		return s.atNode(o, (*node).doOpens)
	}
	return 0, api.ErrArg
}

// atTable does what changes which nodes there are, or how they are called: the table's lock is held to its end.
func (s *Store) atTable(o api.Op, do func(*Store, *node, api.Op) (uint64, api.Errno)) (uint64, api.Errno) {
	s.lock.Lock()
	defer s.lock.Unlock()
	n, is := s.find(o.Path)
	if !is {
		return 0, api.ErrNodeNone
	}
	defer n.lock.Unlock()
	return do(s, n, o)
}

// atNode does what changes one node alone.
func (s *Store) atNode(o api.Op, do func(*node, api.Op) api.Errno) (uint64, api.Errno) {
	n, is := s.hold(o.Path)
	if !is {
		return 0, api.ErrNodeNone
	}
	defer n.lock.Unlock()
	if e := do(n, o); e != api.OK {
		return 0, e
	}
	return o.Path, api.OK
}

// doMake does an OpMake.
func (s *Store) doMake(dir *node, o api.Op) (uint64, api.Errno) {
	at := place{o.Path, o.Node.Name}
	_, taken := s.children[at]
	switch {
	case !dir.isDir():
		return 0, api.ErrNodeKind
	case !maySet(api.MaskMode|api.MaskUid|api.MaskGid|api.MaskMuid, o.Node):
		return 0, api.ErrArg
	case names.Check(at.name) != api.OK:
		return 0, api.ErrName
	case taken:
		return 0, api.ErrNodeTwice
	case len(s.nodes) >= s.most:
		return 0, api.ErrNodeFull
	}
	path := s.put(api.Node{Parent: at.dir, Name: at.name, Mode: o.Node.Mode, Uid: o.Node.Uid, Gid: o.Node.Gid, Muid: o.Node.Muid, Atime: o.Node.Atime, Mtime: o.Node.Mtime})
	s.children[at] = path
	dir.kids = dir.kids.with(path)
	return path, api.OK
}

// doDrop does an OpDrop.
func (s *Store) doDrop(n *node, o api.Op) (uint64, api.Errno) {
	switch {
	case o.Path == api.RootPath:
		return 0, api.ErrNodeKind
	case len(n.kids) > 0:
		return 0, api.ErrNodeKids
	}
	s.orphan(n)
	delete(s.nodes, o.Path)
	s.paths = s.paths.without(o.Path)
	return o.Path, api.OK
}

// orphan takes a node from its directory.
func (s *Store) orphan(n *node) {
	dir, _ := s.find(n.is.Parent) // it is there: what has a child is not dropped
	defer dir.lock.Unlock()
	dir.kids = dir.kids.without(n.is.Path)
	delete(s.children, place{n.is.Parent, n.is.Name})
}

// doName does an OpName.
func (s *Store) doName(n *node, o api.Op) (uint64, api.Errno) {
	at := place{n.is.Parent, o.Name}
	child, taken := s.children[at]
	switch {
	case o.Path == api.RootPath:
		return 0, api.ErrNodeKind
	case names.Check(at.name) != api.OK:
		return 0, api.ErrName
	case taken && child != o.Path:
		return 0, api.ErrNodeTwice
	}
	delete(s.children, place{n.is.Parent, n.is.Name})
	s.children[at] = o.Path
	n.is.Name = at.name
	return o.Path, api.OK
}
