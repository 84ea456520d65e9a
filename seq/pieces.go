package seq

import (
	"iter"

	"verger/api"
)

// What a piece is made of: it has no field but those that its kind needs.

func doing(o api.Op) api.Piece {
	return api.Piece{Kind: api.PieceOp, Op: o}
}

func standing(fid uint32, f api.Fid) api.Piece {
	return api.Piece{Kind: api.PieceFid, Fid: fid, State: f}
}

func ending(fid uint32) api.Piece {
	return api.Piece{Kind: api.PieceGone, Fid: fid}
}

func reading(path, offset uint64, count int) api.Piece {
	return api.Piece{Kind: api.PieceRead, Op: api.Op{Path: path}, Offset: offset, Count: count}
}

func recording(path uint64) api.Piece {
	return api.Piece{Kind: api.PieceRecord, Op: api.Op{Path: path}}
}

func agreeing(msize uint32) api.Piece {
	return api.Piece{Kind: api.PieceMsize, Count: int(msize)}
}

func opening(path uint64, n int) api.Piece {
	return doing(api.Op{Kind: api.OpOpens, Path: path, N: n})
}

func dropping(path uint64) api.Piece {
	return doing(api.Op{Kind: api.OpDrop, Path: path})
}

func cutting(path, length uint64) api.Piece {
	return doing(api.Op{Kind: api.OpCut, Path: path, Offset: length})
}

func setting(path uint64, mask api.Mask, n api.Node) api.Piece {
	return doing(api.Op{Kind: api.OpSet, Path: path, Mask: mask, Node: n})
}

// marks are the fields by which a node is marked by who changed it.
const marks = api.MaskBump | api.MaskMtime | api.MaskMuid

// blocks goes through the pieces into which the ends of blocks part some bytes: the place of each, and how many bytes it has.
func blocks(offset uint64, size int) iter.Seq2[uint64, int] {
	return func(yield func(uint64, int) bool) {
		for size > 0 {
			n := min(size, int(api.BlockSize-offset%api.BlockSize))
			if !yield(offset, n) {
				return
			}
			offset += uint64(n)
			size -= n
		}
	}
}
