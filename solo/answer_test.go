package solo_test

import (
	"testing"

	"verger/api"
)

// isRequest tells whether a number is the kind of a request.
func isRequest(kind int) bool {
	return kind >= 100 && kind <= 126 && kind%2 == 0 && kind != 106
}

// S4, 1: what is no request's kind, whatever its body and its tag are, in a session or not.
func TestKind(t *testing.T) {
	for _, p := range []pair{withConns(t, config(), 1), withSession(t, config())} {
		for kind := range 256 {
			if isRequest(kind) {
				continue
			}
			for _, tag := range []uint16{0, 1, 0xff00, 65534, api.NoTag} {
				p.refused(t, 1, api.ErrMsgKind, raw(uint8(kind), tag), raw(uint8(kind), tag, 1), raw(uint8(kind), tag, make([]byte, 100)...))
			}
		}
		for _, m := range []api.Msg{
			{Kind: api.Rversion, Tag: api.NoTag, Msize: 8192, Version: "9P2000"}, {Kind: api.Rerror, Tag: 1, Ename: "no"}, {Kind: api.Rflush, Tag: 2},
			{Kind: api.Rwalk, Tag: 3, Qids: make([]api.Qid, 16)}, {Kind: api.Rread, Tag: 4, Data: []byte("abc")}, {Kind: api.Rwstat, Tag: 5},
		} {
			p.refused(t, 1, api.ErrMsgKind, frameOf(m))
		}
	}
}

// S4, 2: what is no message's body, whatever the tag is, in a session or not.
func TestBody(t *testing.T) {
	for _, p := range []pair{withConns(t, config(), 1), withSession(t, config())} {
		for _, q := range requests() {
			f := frameOf(q)
			for _, tag := range []uint16{0, 7, 0x0700, api.NoTag} {
				p.refused(t, 1, api.ErrMsgBody, raw(f[4], tag), raw(f[4], tag, f[7:len(f)-1]...), raw(f[4], tag, append(f[7:len(f):len(f)], 0)...))
			}
		}
		p.refused(t, 1, api.ErrMsgBody,
			raw(100, api.NoTag, 0, 32, 0, 0, 2, 0, 'a', 0),
			raw(100, api.NoTag, 0, 32, 0, 0, 1, 0, 0xff),
			raw(110, 1, append([]byte{0, 0, 0, 0, 1, 0, 0, 0, 17, 0}, make([]byte, 34)...)...),
			raw(118, 1, 0, 0, 0, 0, 0, 0, 0, 0, 0, 0, 0, 0, 4, 0, 0, 0, 1, 2, 3),
			raw(126, 1, 0, 0, 0, 0, 2, 0, 0, 0))
	}
}

// S4, 3: a Tversion has the tag 65535, and all else another one; that is asked ahead of the session, and of what the kind asks.
func TestTag(t *testing.T) {
	for _, p := range []pair{withConns(t, config(), 1), withSession(t, config())} {
		for _, q := range requests() {
			if q.Kind != api.Tversion {
				q.Tag = api.NoTag
				p.refused(t, 1, api.ErrTag, frameOf(q))
				continue
			}
			for _, tag := range []uint16{0, 1, 255, 0xff00, 65534} {
				q.Tag = tag
				p.refused(t, 1, api.ErrTag, frameOf(q))
				small := q
				small.Msize, small.Version = 1, "9P"
				p.refused(t, 1, api.ErrTag, frameOf(small))
			}
		}
	}
	p := withSession(t, config())
	for _, tag := range []uint16{0, 1, 255, 256, 65534} {
		q := aFlush(api.NoTag)
		q.Tag = tag
		p.done(t, 1, q)
		q = aStat(0)
		q.Tag = tag
		p.done(t, 1, q)
	}
}

// S4, 5: without a session all but a Tversion is refused, a Tflush too: ahead of one, behind one that was refused, and behind one whose version is not spoken.
func TestNoSession(t *testing.T) {
	p := withConns(t, config(), 2)
	p.done(t, 2, aVersion(8192))
	p.done(t, 2, anAttach(0, "ann"))
	unknown := aVersion(8192)
	unknown.Version = "9P2001"
	for _, ahead := range []api.Msg{{}, aVersion(511), aVersion(0), unknown} {
		if ahead.Kind != 0 {
			p.do(t, 1, ahead)
		}
		for _, q := range requests()[1:] {
			p.refused(t, 1, api.ErrSession, frameOf(q))
		}
	}
	p.done(t, 1, aVersion(8192))
	p.done(t, 1, anAttach(0, "ann"))
	p.done(t, 1, unknown)
	for _, q := range requests()[1:] {
		p.refused(t, 1, api.ErrSession, frameOf(q))
	}
	p.done(t, 2, aStat(0))
}

// S4, 4: what is agreed on; one that is refused ends no session, one that is not ends the one that there is, also where its version is not spoken.
func TestVersion(t *testing.T) {
	p := withSession(t, config())
	for _, msize := range []uint32{0, 1, 511} {
		p.refused(t, 1, api.ErrMsize, frameOf(aVersion(msize)))
	}
	for _, c := range []struct {
		asked          string
		msize          uint32
		version        string
		agreed, iounit uint32
	}{
		{"9P2000", 8192, "9P2000", 8192, 8168},
		{"9P2000", 65536, "9P2000", 8192, 8168},
		{"9P2000", 512, "9P2000", 512, 488},
		{"9P2000.u", 8191, "9P2000", 8191, 8167},
		{"9P2000.", 600, "9P2000", 600, 576},
		{"9P2000x", 600, "unknown", 600, 0},
		{"", 65536, "unknown", 8192, 0},
		{"9p2000", 512, "unknown", 512, 0},
	} {
		p := withSession(t, config())
		p.done(t, 1, aCreate(0, "x", 0666, 0x42))
		q := aVersion(c.msize)
		q.Version = c.asked
		if r := p.done(t, 1, q); r.Msize != c.agreed || r.Version != c.version {
			t.Errorf("%q, %d: %s", c.asked, c.msize, shown(r))
		}
		if len(p.s.Fids(1)) > 0 || p.isThere(2) {
			t.Errorf("%q: the old session has not ended: %+v, %+v", c.asked, p.s.Fids(1), p.s.Nodes())
		}
		if c.iounit == 0 {
			p.refused(t, 1, api.ErrSession, frameOf(anAttach(0, "ann")))
			continue
		}
		p.done(t, 1, anAttach(0, "ann"))
		if r := p.done(t, 1, anOpen(0, 0)); r.Iounit != c.iounit {
			t.Errorf("%q: %s", c.asked, shown(r))
		}
	}
}

// S4, 6: nothing is ever under way: a Tflush is answered, whatever tag it names, its own too, and changes nothing.
func TestFlush(t *testing.T) {
	p := withSession(t, config())
	was := p.all()
	for _, old := range []uint16{0, 1, 13, 65534, api.NoTag} {
		for range 3 {
			if r := p.done(t, 1, aFlush(old)); r.Kind != api.Rflush {
				t.Errorf("%s", shown(r))
			}
		}
	}
	if !same(p.all(), was) {
		t.Errorf("%+v, was %+v", p.all(), was)
	}
}

// S4, 7: each kind of request is done, once, and refused as seq's Do refuses it.
func TestEachKind(t *testing.T) {
	p := withSession(t, config())
	record := p.done(t, 1, aStat(0)).Stat
	for _, c := range []struct {
		q    api.Msg
		want api.Msg
	}{
		{anAuth(20, "eve"), api.Msg{Kind: api.Rauth, Tag: 2, Qid: api.Qid{Kind: 8, Vers: 1}}},
		{anAttach(21, "bob"), api.Msg{Kind: api.Rattach, Tag: 3, Qid: api.Qid{Kind: 128, Path: 1}}},
		{anAttach(21, "bob"), api.Msg{Kind: api.Rerror, Tag: 3, Ename: "fid is in use"}},
		{aWalk(0, 22), api.Msg{Kind: api.Rwalk, Tag: 4}},
		{aWalk(0, 23, ".."), api.Msg{Kind: api.Rwalk, Tag: 4, Qids: []api.Qid{{Kind: 128, Path: 1}}}},
		{aWalk(0, 24, "x"), api.Msg{Kind: api.Rerror, Tag: 4, Ename: "file does not exist"}},
		{aStat(0), api.Msg{Kind: api.Rstat, Tag: 11, Stat: record}},
		{aCreate(22, "x", 0644, 2), api.Msg{Kind: api.Rcreate, Tag: 6, Qid: api.Qid{Path: 2}, Iounit: 8168}},
		{aWrite(22, 2, "abc"), api.Msg{Kind: api.Rwrite, Tag: 8, Count: 3}},
		{aRead(22, 1, 3), api.Msg{Kind: api.Rread, Tag: 7, Data: []byte("\x00ab")}},
		{aWalk(9, 25, "x"), api.Msg{Kind: api.Rwalk, Tag: 4, Qids: []api.Qid{{Vers: 1, Path: 2}}}},
		{anOpen(25, 1), api.Msg{Kind: api.Rerror, Tag: 5, Ename: "permission denied"}},
		{anOpen(25, 0), api.Msg{Kind: api.Ropen, Tag: 5, Qid: api.Qid{Vers: 1, Path: 2}, Iounit: 8168}},
		{aWrite(25, 0, "z"), api.Msg{Kind: api.Rerror, Tag: 8, Ename: "fid is not open for this"}},
		{aWstat(22, func(s *api.Stat) { s.Length = 1 }), api.Msg{Kind: api.Rwstat, Tag: 12}},
		{aClunk(22), api.Msg{Kind: api.Rclunk, Tag: 9}},
		{aClunk(22), api.Msg{Kind: api.Rerror, Tag: 9, Ename: "unknown fid"}},
		{aWalk(0, 26, "x"), api.Msg{Kind: api.Rwalk, Tag: 4, Qids: []api.Qid{{Vers: 2, Path: 2}}}},
		{aRemove(26), api.Msg{Kind: api.Rremove, Tag: 10}},
		{aRead(25, 0, 1), api.Msg{Kind: api.Rerror, Tag: 7, Ename: "file has been removed"}},
		{aRead(20, 0, 8), api.Msg{Kind: api.Rread, Tag: 7, Data: []byte("verger1 ")}},
		{aRemove(23), api.Msg{Kind: api.Rerror, Tag: 10, Ename: "permission denied"}},
		{aStat(23), api.Msg{Kind: api.Rerror, Tag: 11, Ename: "unknown fid"}},
	} {
		if r := p.do(t, 1, c.q); !same(r, c.want) {
			t.Errorf("%s: %s, want %s", shown(c.q), shown(r), shown(c.want))
		}
		p.wantSame(t)
	}
}
