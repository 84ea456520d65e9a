package nodes

import (
	"maps"
	"slices"
	"sync"

	"verger/api"
)

// maxOpens is how many Opens a node may have.
const maxOpens = 2147483647

// node is a file or a directory.
type node struct {
	lock   sync.Mutex       // of all that stands below
	is     api.Node         // but for Kids: these are kids
	kids   rising           // a directory's children
	blocks map[uint64]block // a file's, in which there is anything; in all others, and behind the Length, there is 00
}

// block is a piece of a file's bytes.
type block [api.BlockSize]byte

func newNode(is api.Node) *node {
	return &node{is: is, blocks: map[uint64]block{}}
}

func (n *node) isDir() bool {
	return n.is.Mode&api.ModeDir != 0
}

// told is what others are told of a node.
func (n *node) told() api.Node {
	is := n.is
	is.Kids = len(n.kids)
	return is
}

// clone is a node like this one, whose lock nobody has.
func (n *node) clone() *node {
	n.lock.Lock()
	defer n.lock.Unlock()
	return &node{is: n.is, kids: slices.Clone(n.kids), blocks: maps.Clone(n.blocks)}
}

// read is what stands there: block by block, as far as the Length goes.
func (n *node) read(offset uint64, most int) []byte {
	if most <= 0 || offset >= n.is.Length {
		return nil
	}
	left := min(n.is.Length-offset, uint64(most))
	told := make([]byte, 0, left)
	for left > 0 {
		b := n.blocks[offset/api.BlockSize]
		piece := b[offset%api.BlockSize:]
		piece = piece[:min(left, uint64(len(piece)))]
		told = append(told, piece...)
		offset += uint64(len(piece))
		left -= uint64(len(piece))
	}
	return told
}

// doSet does an OpSet.
func (n *node) doSet(o api.Op) api.Errno {
	if !maySet(o.Mask, o.Node) {
		return api.ErrArg
	}
	if o.Mask&api.MaskMode != 0 && (o.Node.Mode^n.is.Mode)&api.ModeDir != 0 {
		return api.ErrNodeKind
	}
	if o.Mask&api.MaskMode != 0 {
		n.is.Mode = o.Node.Mode
	}
	if o.Mask&api.MaskUid != 0 {
		n.is.Uid = o.Node.Uid
	}
	if o.Mask&api.MaskGid != 0 {
		n.is.Gid = o.Node.Gid
	}
	if o.Mask&api.MaskMuid != 0 {
		n.is.Muid = o.Node.Muid
	}
	if o.Mask&api.MaskAtime != 0 {
		n.is.Atime = o.Node.Atime
	}
	if o.Mask&api.MaskMtime != 0 {
		n.is.Mtime = o.Node.Mtime
	}
	if o.Mask&api.MaskBump != 0 {
		n.is.Vers++
	}
	return api.OK
}

// doCut does an OpCut.
func (n *node) doCut(o api.Op) api.Errno {
	switch {
	case n.isDir():
		return api.ErrNodeKind
	case o.Offset > api.MaxFile:
		return api.ErrNodeBig
	}
	// What is cut off must not be there again when the file is made longer.
	at, stay := o.Offset/api.BlockSize, o.Offset%api.BlockSize
	if b, kept := n.blocks[at]; kept && stay > 0 {
		clear(b[stay:])
		n.blocks[at] = b
		at++
	}
	for ; at*api.BlockSize < n.is.Length; at++ {
		delete(n.blocks, at)
	}
	n.is.Length = o.Offset
	return api.OK
}

// doBytes does an OpBytes.
func (n *node) doBytes(o api.Op) api.Errno {
	at, from, size := o.Offset/api.BlockSize, o.Offset%api.BlockSize, uint64(len(o.Data))
	switch {
	case n.isDir():
		return api.ErrNodeKind
	case size == 0 || size > api.BlockSize-from:
		return api.ErrNodeBlock
	case o.Offset > api.MaxFile-size:
		return api.ErrNodeBig
	}
	b := n.blocks[at]
	copy(b[from:], o.Data)
	n.blocks[at] = b
	n.is.Length = max(n.is.Length, o.Offset+size)
	return api.OK
}

// doOpens does an OpOpens.
func (n *node) doOpens(o api.Op) api.Errno {
	if o.N < -n.is.Opens || o.N > maxOpens-n.is.Opens {
		return api.ErrNodeOpens
	}
	n.is.Opens += o.N
	return api.OK
}
