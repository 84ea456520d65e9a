package seq

import (
	"slices"

	"verger/api"
	"verger/rules"
	"verger/stat"
)

// Apply does a piece; what it tells.
func (w *World) Apply(conn int, p api.Piece) []byte {
	if p.Kind == api.PieceMsize {
		w.agree(conn, p.Count)
		return nil
	}
	s, has := w.sessions[conn]
	if !has {
		return nil
	}
	switch p.Kind {
	case api.PieceOp:
		w.tree.Do(p.Op)
	case api.PieceFid:
		w.put(conn, p.Fid, p.State)
	case api.PieceGone:
		s.fids.Take(p.Fid)
	case api.PieceRead:
		return w.tree.Read(p.Op.Path, p.Offset, p.Count)
	case api.PieceRecord:
		return w.record(p.Op.Path)
	}
	return nil
}

// put makes a fid of a session another one, or a new one.
func (w *World) put(conn int, num uint32, f api.Fid) {
	table := w.sessions[conn].fids
	if table.Set(num, f) == api.OK {
		return
	}
	if table.Add(num, f) == api.OK && f.State == api.FidAuth {
		w.auths[conn]++
	}
}

// record is a node's record, as it is told.
func (w *World) record(path uint64) []byte {
	n, there := w.tree.Node(path)
	if !there {
		return nil
	}
	b, _ := stat.Encode(rules.Record(n)) // a node's names are such as can be written
	return b
}

// Do does a request whole.
func (w *World) Do(conn int, t api.Msg) api.Msg {
	plan := w.Decide(conn, t)
	if plan.Reply.Kind == api.Rversion {
		w.clunkAll(conn)
	}
	reply := plan.Reply
	for _, p := range slices.Concat(plan.Now, plan.Pieces) {
		reply.Data = append(reply.Data, w.Apply(conn, p)...)
	}
	return reply
}
