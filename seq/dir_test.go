package seq_test

import (
	"bytes"
	"math"
	"strconv"
	"testing"

	"verger/api"
	"verger/rules"
	"verger/stat"
)

// The chapter's example 4.
func TestDirExample(t *testing.T) {
	p := withSession(t, config())
	p.make(t, "x", 0666)
	p.fid(t, annRoot, 2)
	p.done(t, 1, anOpen(2, 0))
	p.refused(t, 1, api.ErrSmall, aRead(2, 0, 40), aRead(2, 0, 58))
	record, _ := stat.Encode(rules.Record(p.is(t, 2)))
	if r := p.done(t, 1, aRead(2, 0, 59)); len(record) != 59 || !bytes.Equal(r.Data, record) {
		t.Errorf("%x, want %x", r.Data, record)
	}
	if r := p.done(t, 1, aRead(2, 59, 59)); len(r.Data) != 0 {
		t.Errorf("%x", r.Data)
	}
	p.refused(t, 1, api.ErrPlace, aRead(2, 58, 59))
}

// withDir is a pair whose fid 1, ann's, is open at a directory with five files, of paths 3 to 7, whose records have 59 bytes each (that of "long" 62).
func withDir(t *testing.T) pair {
	t.Helper()
	p := withSession(t, config())
	p.make(t, "d", dirBit|0777)
	for _, name := range []string{"a", "b", "long", "c", "e"} {
		p.fid(t, annRoot, 99, "d")
		p.done(t, 1, aCreate(99, name, 0666, 0))
		p.done(t, 1, aClunk(99))
	}
	p.fid(t, annRoot, 1, "d")
	p.done(t, 1, anOpen(1, 0))
	return p
}

// told is the fid 1 of such a pair, that was told so much.
func toldSo(last, told uint64) api.Fid {
	return api.Fid{State: open, Node: 2, User: "ann", Last: last, Told: told}
}

// What a read of a directory comes to: the records that fit whole, in the order of their paths; a piece for each.
func TestDirReads(t *testing.T) {
	for _, r := range []struct {
		count uint32
		last  uint64
		told  int
		paths []uint64
		needs []uint64
	}{
		{0, 0, 0, nil, nil}, {59, 3, 59, []uint64{3}, []uint64{3, 4}}, {117, 3, 59, []uint64{3}, []uint64{3, 4}}, {118, 4, 118, []uint64{3, 4}, []uint64{3, 4, 5}},
		{177, 4, 118, []uint64{3, 4}, []uint64{3, 4, 5}}, {179, 4, 118, []uint64{3, 4}, []uint64{3, 4, 5}}, {180, 5, 180, []uint64{3, 4, 5}, []uint64{3, 4, 5, 6}},
		{239, 6, 239, []uint64{3, 4, 5, 6}, []uint64{3, 4, 5, 6, 7}}, {298, 7, 298, []uint64{3, 4, 5, 6, 7}, []uint64{3, 4, 5, 6, 7}}, {math.MaxUint32, 7, 298, []uint64{3, 4, 5, 6, 7}, []uint64{3, 4, 5, 6, 7}},
	} {
		p := withDir(t)
		q := aRead(1, 0, r.count)
		var pieces []api.Piece
		for _, path := range r.paths {
			pieces = append(pieces, recordOf(path))
		}
		f := toldSo(r.last, uint64(r.told))
		p.wantPlan(t, 1, q, api.Msg{}, []api.Piece{stands(1, f)}, pieces)
		needs := []api.Need{fidAlone(1), nodeTogether(2)}
		for _, path := range r.needs {
			needs = append(needs, nodeTogether(path))
		}
		p.wantFoot(t, 1, q, needs...)
		if got := p.done(t, 1, q); len(got.Data) != r.told {
			t.Errorf("Count %d: %d bytes, want %d", r.count, len(got.Data), r.told)
		}
		p.wantFid(t, 1, 1, f)
	}
}

// From where it was told so far it goes on; from 0 it begins again; from elsewhere it does not.
func TestDirGoesOn(t *testing.T) {
	p := withDir(t)
	p.done(t, 1, aRead(1, 0, 130))
	p.wantFid(t, 1, 1, toldSo(4, 118))
	p.refused(t, 1, api.ErrPlace, aRead(1, 117, 130), aRead(1, 119, 130), aRead(1, 59, 130), aRead(1, 59, 0), aRead(1, math.MaxUint64, 130))
	p.refused(t, 1, api.ErrSmall, aRead(1, 118, 61), aRead(1, 118, 1))
	p.wantFoot(t, 1, aRead(1, 118, 61), fidAlone(1), nodeTogether(2), nodeTogether(5))
	p.wantFoot(t, 1, aRead(1, 117, 61), fidAlone(1), nodeTogether(2))
	p.done(t, 1, aRead(1, 118, 0)) // of no bytes it goes no further
	p.wantFoot(t, 1, aRead(1, 118, 0), fidAlone(1), nodeTogether(2))
	p.wantFid(t, 1, 1, toldSo(4, 118))
	p.done(t, 1, aRead(1, 118, 62))
	p.wantFid(t, 1, 1, toldSo(5, 180))
	p.done(t, 1, aRead(1, 180, 1000))
	p.wantFid(t, 1, 1, toldSo(7, 298))
	for range 2 {
		p.wantFoot(t, 1, aRead(1, 298, 1), fidAlone(1), nodeTogether(2))
		if r := p.done(t, 1, aRead(1, 298, 1)); len(r.Data) != 0 { // at the end no count is too small
			t.Errorf("%x", r.Data)
		}
		p.wantFid(t, 1, 1, toldSo(7, 298))
	}
	p.refused(t, 1, api.ErrPlace, aRead(1, 180, 1000))
	if r := p.done(t, 1, aRead(1, 0, 65)); len(r.Data) != 59 {
		t.Errorf("%x", r.Data)
	}
	p.wantFid(t, 1, 1, toldSo(3, 59))
	p.done(t, 1, aRead(1, 0, 0)) // from 0 on it has told nothing
	p.wantFid(t, 1, 1, toldSo(0, 0))
	p.refused(t, 1, api.ErrPlace, aRead(1, 59, 1000))
	p.refused(t, 1, api.ErrSmall, aRead(1, 0, 58))
	p.wantFoot(t, 1, aRead(1, 0, 58), fidAlone(1), nodeTogether(2), nodeTogether(3))
}

// A directory of nothing tells nothing, whatever the count is.
func TestDirEmpty(t *testing.T) {
	p := withSession(t, config())
	p.make(t, "d", dirBit|0777)
	p.fid(t, annRoot, 1, "d")
	p.done(t, 1, anOpen(1, 0))
	for _, count := range []uint32{0, 1, 1000} {
		q := aRead(1, 0, count)
		p.wantPlan(t, 1, q, api.Msg{}, []api.Piece{stands(1, toldSo(0, 0))}, nil)
		p.wantFoot(t, 1, q, fidAlone(1), nodeTogether(2))
		p.done(t, 1, q)
	}
}

// As much as an iounit goes, also where more was asked for.
func TestDirIounit(t *testing.T) {
	for msize, last := range map[int]uint64{512: 7, 24 + 298: 7, 24 + 297: 6, 24 + 118: 4, 24 + 59: 3} {
		p := withDir(t)
		p.w.Apply(1, agreed(msize))
		p.m.on(1).msize = msize
		p.done(t, 1, aRead(1, 0, 65536))
		if got := p.w.Fids(1)[1].Fid.Last; got != last {
			t.Errorf("msize %d: told up to %d, want %d", msize, got, last)
		}
	}
	for _, msize := range []int{1, 23, 24, 25, 24 + 58} {
		p := withDir(t)
		p.w.Apply(1, agreed(msize))
		p.m.on(1).msize = msize
		p.refused(t, 1, api.ErrSmall, aRead(1, 0, 1), aRead(1, 0, 65536))
		p.done(t, 1, aRead(1, 0, 0))
		p.wantFoot(t, 1, aRead(1, 0, 65536), fidAlone(1), nodeTogether(2), nodeTogether(3))
	}
}

// What goes while a directory is read is not told, what stays is; what is made is told at the end.
func TestDirWhileChanged(t *testing.T) {
	p := withDir(t)
	for _, name := range []string{"b", "long", "e"} {
		p.fid(t, annRoot, 20, "d", name)
		p.done(t, 1, aWstat(20, func(s *api.Stat) { s.Name = name + "2" }))
		p.done(t, 1, aRead(1, 0, 60))
		p.done(t, 1, aRemove(20))
	}
	p.fid(t, annRoot, 20, "d")
	p.done(t, 1, aCreate(20, "new", 0666, 0))
	p.done(t, 1, aRemove(20))
	p.fid(t, annRoot, 20, "d")
	p.done(t, 1, aCreate(20, "newer", 0666, 0))
	var names []string
	for told := uint64(59); ; {
		r := p.done(t, 1, aRead(1, told, 70))
		l, e := stat.Records(r.Data)
		if len(l) == 0 || e != api.OK {
			break
		}
		names = append(names, l[0].Name)
		told += uint64(len(r.Data))
	}
	if want := []string{"c", "newer"}; !same(names, want) {
		t.Errorf("behind a: %q", names)
	}
}

// A directory of as many files as may be, read in pieces that are as great as may be.
func TestDirGreat(t *testing.T) {
	c := config()
	c.Nodes, c.Msize = 4096, 65536
	p := newPair(t, c)
	p.done(t, 1, aVersion(65536))
	p.done(t, 1, anAttach(1, "ann"))
	for i := range 4095 {
		p.w.Apply(1, made(1, api.Node{Name: "f" + strconv.Itoa(i), Mode: 0666, Uid: "ann", Gid: "ann", Muid: "ann"}))
	}
	p.w.Do(1, anOpen(1, 0))
	var told []byte
	for reads := 1; ; reads++ {
		l := p.w.Foot(1, aRead(1, uint64(len(told)), 65536))
		pieces := len(p.w.Decide(1, aRead(1, uint64(len(told)), 65536)).Pieces)
		r := p.w.Do(1, aRead(1, uint64(len(told)), 65536))
		if len(r.Data) == 0 {
			break
		}
		if told = append(told, r.Data...); len(r.Data) > 65512 || reads > 5 || len(l) < pieces+2 || len(l) > pieces+3 {
			t.Fatalf("%d bytes, %d reads, %d pieces, %d needs", len(r.Data), reads, pieces, len(l))
		}
	}
	records, e := stat.Records(told)
	if len(records) != 4095 || e != api.OK {
		t.Fatalf("%d records, %d", len(records), e)
	}
	for i, r := range records {
		if r.Name != "f"+strconv.Itoa(i) {
			t.Errorf("%d: %q", i, r.Name)
		}
	}
}
