package seq_test

import (
	"math"
	"slices"
	"strings"
	"testing"

	"verger/api"
)

// What is refused ahead of all that a kind asks: what is no request; what is no message that may be; what has no session.
func TestAhead(t *testing.T) {
	p := newPair(t, config())
	long := make([]string, 17)
	for kind := range 256 {
		q := api.Msg{Kind: api.Kind(kind), Tag: 3, Msize: 600, Version: "\xff", Names: long, Uname: "\xff"}
		if kind < 100 || kind > 127 || kind%2 > 0 || kind == 106 {
			p.wantRefusal(t, 1, q, api.ErrMsgKind)
			p.refused(t, 1, api.ErrMsgKind, q, api.Msg{Kind: api.Kind(kind)})
		}
	}
	for _, q := range []api.Msg{
		{Kind: api.Tversion, Msize: 5, Version: "\x00"}, {Kind: api.Tauth, Uname: "\xff"}, {Kind: api.Tattach, Aname: "\xff"}, {Kind: api.Twalk, Names: long}, {Kind: api.Tcreate, Name: "a\x00"},
		{Kind: api.Twrite, Data: make([]byte, 65536)}, {Kind: api.Twstat, Stat: api.Stat{Muid: "\xff"}}, {Kind: api.Tcreate, Name: strings.Repeat("x", 70000)},
	} {
		q.Tag = 300
		p.wantRefusal(t, 1, q, api.ErrMsgBody)
		p.refused(t, 1, api.ErrMsgBody, q)
	}
	for _, q := range []api.Msg{anAuth(1, "eve"), anAttach(noFid, "joe"), {Kind: api.Tflush, Tag: 4}, aWalk(1, 2), anOpen(1, 0), aCreate(1, "x", 0, 0), aRead(1, 0, 0), aWrite(1, 0, ""), aClunk(1), aRemove(1), aStat(1), aWstat(1, nothing)} {
		p.wantRefusal(t, 1, q, api.ErrSession)
		p.refused(t, 1, api.ErrSession, q)
		p.wantFoot(t, 1, q)
	}
	p.done(t, 2, aVersion(600))
	p.refused(t, 1, api.ErrSession, aStat(0)) // another one's session is none
	p.refused(t, 2, api.ErrFid, aStat(0))
	p.refused(t, 2, api.ErrMsgBody, api.Msg{Kind: api.Tattach, Fid: 0, Afid: noFid, Uname: "a\x00"})
}

// A Tflush is answered, whatever it names, with its own tag.
func TestFlush(t *testing.T) {
	p := stage(t, config())
	for _, tag := range []uint16{0, 3, 65535} {
		for _, old := range []uint16{0, 3, 65535} {
			q := api.Msg{Kind: api.Tflush, Tag: tag, Oldtag: old, Fid: annX}
			p.wantPlan(t, 1, q, api.Msg{}, nil, nil)
			p.wantFoot(t, 1, q)
			if r := p.done(t, 1, q); !same(r, api.Msg{Kind: api.Rflush, Tag: tag}) {
				t.Errorf("%+v", r)
			}
		}
	}
}

// W4: what size is agreed on.
func TestVersionSizes(t *testing.T) {
	for _, most := range []uint32{512, 8192, 65536} {
		c := config()
		c.Msize = most
		p := newPair(t, c)
		for _, msize := range []uint32{0, 1, 24, 511} {
			p.wantRefusal(t, 1, aVersion(msize), api.ErrMsize)
			p.refused(t, 1, api.ErrMsize, aVersion(msize))
		}
		for _, msize := range []uint32{512, 513, 8191, 8192, 8193, 65535, 65536, 65537, 1 << 31, math.MaxUint32} {
			want := min(msize, most)
			p.wantPlan(t, 1, aVersion(msize), api.Msg{Msize: want, Version: "9P2000"}, []api.Piece{agreed(int(want))}, nil)
			p.done(t, 1, aVersion(msize))
			if got := p.w.Msize(1); got != want {
				t.Errorf("Msize(1) = %d, want %d", got, want)
			}
		}
		for _, msize := range []uint32{0, 511} {
			was := p.w.Msize(1)
			p.refused(t, 1, api.ErrMsize, aVersion(msize))
			if p.w.Msize(1) != was {
				t.Errorf("Msize(1) = %d", p.w.Msize(1))
			}
		}
	}
}

// W4: which versions are spoken: up to the first dot.
func TestVersionTexts(t *testing.T) {
	for version, spoken := range map[string]bool{
		"9P2000": true, "9P2000.": true, "9P2000.u": true, "9P2000.L.x": true, "9P2000..": true,
		"": false, ".": false, "9P": false, "9P200": false, "9P20000": false, "9p2000": false, "9P2000 ": false, " 9P2000": false, "9P2000u": false, ".9P2000": false, "u.9P2000": false, "unknown": false, "9P2000,u": false, "9P1999.9P2000": false,
	} {
		p := stage(t, config())
		q := api.Msg{Kind: api.Tversion, Tag: 5, Msize: 700, Version: version}
		want, msize := "unknown", 0
		if spoken {
			want, msize = "9P2000", 700
		}
		p.wantPlan(t, 1, q, api.Msg{Msize: 700, Version: want}, []api.Piece{agreed(msize)}, nil)
		p.wantFoot(t, 1, q)
		r := p.done(t, 1, q)
		if !same(r, api.Msg{Kind: api.Rversion, Tag: 5, Msize: 700, Version: want}) || p.w.Msize(1) != uint32(msize) || len(p.w.Fids(1)) > 0 {
			t.Errorf("%q: %+v, Msize %d, %d fids", version, r, p.w.Msize(1), len(p.w.Fids(1)))
		}
	}
}

// A Tversion, a good one or of an unknown version, ends the session ahead of it by its clunks: files that go with their fids go, and Opens goes down; a refused one ends nothing; other sessions stay.
func TestVersionEnds(t *testing.T) {
	for _, q := range []api.Msg{aVersion(600), {Kind: api.Tversion, Msize: 512, Version: "8P"}} {
		p := stage(t, config())
		p.done(t, 2, aVersion(512))
		p.done(t, 2, anAttach(3, "bob"))
		p.done(t, 2, aWalk(3, 3, "x"))
		p.done(t, 2, anOpen(3, 0))
		p.done(t, 1, aCreate(annRoot, "goes", 0666, 0x41))
		p.refused(t, 1, api.ErrMsize, aVersion(100))
		p.refused(t, 1, api.ErrMsgBody, api.Msg{Kind: api.Tversion, Msize: 600, Version: "\xff"})
		p.done(t, 1, q)
		if n := p.is(t, x); n.Opens != 1 || len(p.w.Fids(2)) != 1 || len(p.w.Nodes()) != 4 || p.is(t, 1).Opens != 0 {
			t.Errorf("%+v; %+v", p.w.Nodes(), p.w.Fids(2))
		}
	}
}

// Ends: a Tclunk of each fid, rising, with the tag 0; by asking nothing is ended.
func TestEnds(t *testing.T) {
	p := stage(t, config())
	var nums []uint32
	for _, q := range p.w.Ends(1) {
		if !same(q, api.Msg{Kind: api.Tclunk, Fid: q.Fid}) {
			t.Errorf("%+v", q)
		}
		nums = append(nums, q.Fid)
	}
	if want := []uint32{0, 1, 2, 3, 4, 5, 6, 7, 9, 10, 11, 12, 13}; !slices.Equal(nums, want) {
		t.Errorf("Ends(1): %v, want %v", nums, want)
	}
	p.wantSame(t)
	if l := p.w.Ends(2); len(l) > 0 {
		t.Errorf("Ends(2): %v", l)
	}
}

// Leave: all its clunks, and the session is no more; of a connection without one nothing.
func TestLeave(t *testing.T) {
	p := stage(t, config())
	p.done(t, 1, aCreate(annRoot, "goes", 0666, 0x41))
	p.done(t, 2, aVersion(600))
	p.done(t, 2, anAttach(1, "bob"))
	p.w.Leave(3)
	p.wantSame(t)
	for range 2 {
		p.w.Leave(1)
		p.m.ends(1)
		p.wantSame(t)
		if p.w.Msize(1) != 0 || len(p.w.Fids(1)) != 0 || len(p.w.Fids(2)) != 1 || len(p.w.Nodes()) != 4 {
			t.Errorf("Msize %d, %+v, %+v", p.w.Msize(1), p.w.Fids(1), p.w.Nodes())
		}
	}
	p.refused(t, 1, api.ErrSession, aStat(annX))
	p.done(t, 1, aVersion(600))
	if len(p.w.Fids(1)) != 0 {
		t.Errorf("%+v", p.w.Fids(1))
	}
}

// By rising numbers: the directory goes with its fid only if the file within it has gone ahead of it.
func TestEndsRise(t *testing.T) {
	for dir, left := range map[uint32]int{1: 2, 30: 1} { // the file's fid is 20
		p := withSession(t, config())
		p.make(t, "d", dirBit|0777)
		p.fid(t, annRoot, 20, "d")
		p.done(t, 1, aCreate(20, "f", 0666, 0x40))
		p.fid(t, annRoot, dir, "d")
		p.w.Apply(1, stands(dir, api.Fid{State: open, Node: 2, User: "ann", Remove: true}))
		p.w.Apply(1, opened(2, 1))
		p.w.Leave(1)
		if l := p.w.Nodes(); len(l) != left {
			t.Errorf("the directory's fid %d: %+v", dir, l)
		}
	}
}
