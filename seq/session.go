package seq

import (
	"verger/api"
	"verger/fids"
)

// session is what a good Tversion began on a connection. Where there is none, it is one of noughts.
type session struct {
	msize uint32
	fids  *fids.Table
}

// iounit is as many bytes of data as one message can have.
func (s session) iounit() uint32 {
	if s.msize < api.IOHead {
		return 0
	}
	return s.msize - api.IOHead
}

// agree makes a size that of a connection's session, which begins by it, if there is none; by 0 it ends.
func (w *World) agree(conn, msize int) {
	if msize == 0 {
		delete(w.sessions, conn)
	}
	if !within(msize, 1, api.MaxMsize) {
		return
	}
	s, has := w.sessions[conn]
	if !has {
		s.fids, _ = fids.New(w.config.Fids)
	}
	s.msize = uint32(msize)
	w.sessions[conn] = s
}

// Ends are the clunks by which a session ends.
func (w *World) Ends(conn int) []api.Msg {
	var l []api.Msg
	for _, f := range w.Fids(conn) {
		l = append(l, api.Msg{Kind: api.Tclunk, Fid: f.Num})
	}
	return l
}

// clunkAll does all the clunks by which a session ends.
func (w *World) clunkAll(conn int) {
	for _, t := range w.Ends(conn) {
		w.Do(conn, t)
	}
}

// Leave ends a session: all its clunks, and it is no more.
func (w *World) Leave(conn int) {
	w.clunkAll(conn)
	delete(w.sessions, conn)
}
