package seq_test

import (
	"testing"

	"verger/api"
)

// The fids of a stage.
const (
	annRoot  = 0  // ann's, shut, at the root
	bobRoot  = 9  // bob's, shut, at the root
	annX     = 1  // ann's, shut, at x
	bobX     = 2  // bob's, shut, at x
	openX    = 3  // ann's, open at x, for both
	writeX   = 4  // ann's, open at x, to be written
	readX    = 5  // ann's, open at x, to be read
	execX    = 6  // ann's, open at x, to be executed
	openRoot = 7  // ann's, open at the root
	shutGone = 10 // ann's, shut, at what is gone
	openGone = 11 // ann's, open at what is gone, for both; it was to go with the fid
	talkFid  = 12 // an authentication's, of eve
	annD     = 13 // ann's, shut, at d
	noSuch   = 77 // none
)

// The nodes of a stage, but the root.
const (
	x = 2
	g = 3 // gone
	d = 4 // a directory
	y = 5 // a file in d
)

// stage is a session with fids of all sorts: at x, a file of ten bytes which all may execute and others may read, at what is gone, at a directory d with a file y. Now is 9.
func stage(t *testing.T, c api.Config) pair {
	t.Helper()
	p := withSession(t, c)
	p.make(t, "x", 0775)
	p.make(t, "g", 0777)
	p.make(t, "d", dirBit|0755)
	p.fid(t, annRoot, 99, "d")
	p.done(t, 1, aCreate(99, "y", 0644, 0))
	p.done(t, 1, aClunk(99))
	p.fid(t, annRoot, annX, "x")
	p.fid(t, bobRoot, bobX, "x")
	for fid, mode := range map[uint32]uint8{openX: 2, writeX: 1, readX: 0, execX: 3} {
		p.fid(t, annRoot, fid, "x")
		p.done(t, 1, anOpen(fid, mode))
	}
	p.done(t, 1, aWrite(openX, 0, "0123456789"))
	p.fid(t, annRoot, openRoot)
	p.done(t, 1, anOpen(openRoot, 0))
	p.fid(t, annRoot, shutGone, "g")
	p.fid(t, annRoot, openGone, "g")
	p.done(t, 1, anOpen(openGone, 0x42))
	p.fid(t, annRoot, 99, "g")
	p.done(t, 1, aRemove(99))
	p.fid(t, annRoot, annD, "d")
	p.done(t, 1, anAuth(talkFid, "eve"))
	p.tick(4)
	return p
}

// fullStage is a stage to which no fid can be added, and no node.
func fullStage(t *testing.T) pair {
	t.Helper()
	c := config()
	c.Fids, c.Nodes = 14, 5
	p := stage(t, c)
	p.make(t, "z", 0666)
	p.fid(t, annRoot, 88)
	return p
}

// The needs of a foot.

func fidAlone(num uint64) api.Need {
	return api.Need{Lock: api.Lock{Kind: api.LockFid, Conn: 1, Num: num}, Alone: true}
}

func fidTogether(num uint64) api.Need {
	return api.Need{Lock: api.Lock{Kind: api.LockFid, Conn: 1, Num: num}}
}

func nodeAlone(path uint64) api.Need {
	return api.Need{Lock: api.Lock{Kind: api.LockNode, Num: path}, Alone: true}
}

func nodeTogether(path uint64) api.Need {
	return api.Need{Lock: api.Lock{Kind: api.LockNode, Num: path}}
}

// Pieces of a plan.

func made(dir uint64, n api.Node) api.Piece {
	return api.Piece{Kind: api.PieceOp, Op: api.Op{Kind: api.OpMake, Path: dir, Node: n}}
}

func opened(path uint64, n int) api.Piece {
	return api.Piece{Kind: api.PieceOp, Op: api.Op{Kind: api.OpOpens, Path: path, N: n}}
}

func dropped(path uint64) api.Piece {
	return api.Piece{Kind: api.PieceOp, Op: api.Op{Kind: api.OpDrop, Path: path}}
}

func cut(path, length uint64) api.Piece {
	return api.Piece{Kind: api.PieceOp, Op: api.Op{Kind: api.OpCut, Path: path, Offset: length}}
}

func called(path uint64, name string) api.Piece {
	return api.Piece{Kind: api.PieceOp, Op: api.Op{Kind: api.OpName, Path: path, Name: name}}
}

func written(path, offset uint64, data string) api.Piece {
	return api.Piece{Kind: api.PieceOp, Op: api.Op{Kind: api.OpBytes, Path: path, Offset: offset, Data: []byte(data)}}
}

func turned(path uint64, mask api.Mask, n api.Node) api.Piece {
	return api.Piece{Kind: api.PieceOp, Op: api.Op{Kind: api.OpSet, Path: path, Mask: mask, Node: n}}
}

func markedBy(path uint64, user string, now uint32) api.Piece {
	return turned(path, api.MaskBump|api.MaskMtime|api.MaskMuid, api.Node{Mtime: now, Muid: user})
}

func stands(fid uint32, f api.Fid) api.Piece {
	return api.Piece{Kind: api.PieceFid, Fid: fid, State: f}
}

func gone(fid uint32) api.Piece { return api.Piece{Kind: api.PieceGone, Fid: fid} }

func readFrom(path, offset uint64, count int) api.Piece {
	return api.Piece{Kind: api.PieceRead, Op: api.Op{Path: path}, Offset: offset, Count: count}
}

func recordOf(path uint64) api.Piece {
	return api.Piece{Kind: api.PieceRecord, Op: api.Op{Path: path}}
}

func agreed(msize int) api.Piece { return api.Piece{Kind: api.PieceMsize, Count: msize} }

// is is a node of a world.
func (p pair) is(t *testing.T, path uint64) api.Node {
	t.Helper()
	for _, n := range p.w.Nodes() {
		if n.Path == path {
			return n
		}
	}
	failf(t, "no node %d: %s", path, shown(p.w.Nodes()))
	return api.Node{}
}
