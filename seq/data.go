package seq

import (
	"slices"

	"verger/api"
	"verger/auth"
)

// read decides a Tread.
func (d *deed) read() {
	s := d.found()
	if s.fid.State == api.FidAuth {
		d.readAuth(s)
		return
	}
	d.must(d.mayRead(s))
	if isDir(s.node) {
		d.readDir(s)
		return
	}
	d.readFile(s.node)
}

// readAuth tells of an authentication.
func (d *deed) readAuth(s spot) {
	talk, told, e := auth.Read(d.w.users, s.fid.Talk, d.most())
	d.must(e)
	d.plan.Reply.Data = told
	d.talks(s, talk)
}

// talks goes on with an authentication.
func (d *deed) talks(s spot, talk api.Talk) {
	s.fid.Talk = talk
	d.now(standing(d.t.Fid, s.fid))
}

// readDir tells of a directory.
func (d *deed) readDir(s spot) {
	l := d.list(s)
	d.refuse(d.t.Count != 0 && l.more && len(l.told) == 0, api.ErrSmall)
	s.fid.Last = l.last
	s.fid.Told = d.t.Offset + uint64(l.size)
	d.now(standing(d.t.Fid, s.fid))
	for _, path := range l.told {
		d.later(recording(path))
	}
}

// readFile tells of a file.
func (d *deed) readFile(n api.Node) {
	offset := min(d.t.Offset, n.Length)
	size := min(d.most(), int(n.Length-offset))
	for at, count := range blocks(offset, size) {
		d.later(reading(n.Path, at, count))
	}
}

// write decides a Twrite.
func (d *deed) write() {
	s := d.found()
	if s.fid.State == api.FidAuth {
		d.writeAuth(s)
		return
	}
	d.refuse(!s.there, api.ErrGone)
	d.refuse(!isForWriting(s.fid), api.ErrShut)
	data, offset := d.t.Data, d.t.Offset
	if s.node.Mode&api.ModeAppend != 0 {
		offset = s.node.Length
	}
	d.plan.Reply.Count = uint32(len(data))
	if len(data) == 0 {
		return
	}
	d.refuse(offset > api.MaxFile-uint64(len(data)), api.ErrBig) // what comes in a frame is less than the greatest file
	for at, size := range blocks(offset, len(data)) {
		d.later(doing(api.Op{Kind: api.OpBytes, Path: s.node.Path, Offset: at, Data: slices.Clone(data[:size])}))
		data = data[size:]
	}
	d.mark(s.node.Path, s.fid.User)
}

func isForWriting(f api.Fid) bool {
	return f.State == api.FidOpen && (f.Mode == api.OpenWrite || f.Mode == api.OpenBoth)
}

// writeAuth hears of an authentication.
func (d *deed) writeAuth(s spot) {
	talk, heard, e := auth.Write(d.w.users, s.fid.Talk, d.t.Data)
	d.must(e)
	d.plan.Reply.Count = uint32(heard)
	d.talks(s, talk)
}
