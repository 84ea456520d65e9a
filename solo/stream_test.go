package solo_test

import (
	"bytes"
	"math"
	"testing"

	"verger/api"
)

// filled is a frame of just so many bytes: a Twrite by a fid that there is not.
func filled(size int) []byte {
	return frameOf(aWrite(77, 0, string(make([]byte, size-23))))
}

// wantLimit asks that a frame of so many bytes is taken, and that one more ends the connection.
func (p pair) wantLimit(t *testing.T, conn, limit int) {
	t.Helper()
	if b, e := p.feed(t, conn, filled(limit)); e != api.OK || len(b) == 0 {
		failf(t, "a frame of %d bytes: %x, %d", limit, b, e)
	}
	p.over(t, conn, filled(limit + 1)[:4])
}

// S3: where there is no session, as many bytes as the configuration's Msize.
func TestLimitWithoutSession(t *testing.T) {
	for _, msize := range []uint32{512, 513, 8192, 65535} {
		c := config()
		c.Msize = msize
		withConns(t, c, 1).wantLimit(t, 1, int(msize))
	}
	c := config()
	c.Msize = 65536
	p := withConns(t, c, 1)
	if b, e := p.feed(t, 1, filled(65536)); e != api.OK || len(b) == 0 {
		t.Errorf("a frame of 65536 bytes: %x, %d", b, e)
	}
	p.over(t, 1, sized(65537))
}

// S3: in a session as many as its msize, from the frame behind the Tversion on; till the next one that is not refused.
func TestLimitOfSession(t *testing.T) {
	for _, c := range []struct {
		what  string
		l     []api.Msg
		limit int
	}{
		{"a session", []api.Msg{aVersion(600)}, 600},
		{"the least", []api.Msg{aVersion(512)}, 512},
		{"cut to the configuration's", []api.Msg{aVersion(65536)}, 8192},
		{"more than a frame may have", []api.Msg{aVersion(math.MaxUint32)}, 8192},
		{"a lesser one behind", []api.Msg{aVersion(8192), aVersion(700)}, 700},
		{"a greater one behind", []api.Msg{aVersion(600), aVersion(8000)}, 8000},
		{"one too small", []api.Msg{aVersion(600), aVersion(511)}, 600},
		{"one of a wrong tag", []api.Msg{aVersion(600), {Kind: api.Tversion, Tag: 1, Msize: 700, Version: "9P2000"}}, 600},
		{"an unknown version", []api.Msg{aVersion(600), {Kind: api.Tversion, Tag: api.NoTag, Msize: 700, Version: "9P"}}, 8192},
		{"no version is spoken", []api.Msg{{Kind: api.Tversion, Tag: api.NoTag, Msize: 700, Version: "9P"}}, 8192},
		{"one too small, no session", []api.Msg{aVersion(100)}, 8192},
		{"other requests", []api.Msg{aVersion(600), anAttach(0, "ann"), aClunk(0)}, 600},
	} {
		for _, together := range []bool{true, false} {
			p := withConns(t, config(), 2)
			p.done(t, 2, aVersion(5000))
			frames := [][]byte{framesOf(c.l...)}
			if !together {
				frames = nil
				for _, q := range c.l {
					frames = append(frames, frameOf(q))
				}
			}
			for _, b := range frames {
				p.feed(t, 1, b)
			}
			t.Log(c.what)
			p.wantLimit(t, 1, c.limit)
			p.wantLimit(t, 2, 5000)
		}
	}
}

// S3: a frame's bytes are held to the limit that is behind the frame ahead, also in one Feed with it.
func TestLimitWithin(t *testing.T) {
	p := withConns(t, config(), 2)
	p.over(t, 1, bytes.Join([][]byte{frameOf(aVersion(600)), filled(600), filled(601), frameOf(aVersion(8192))}, nil),
		api.Msg{Kind: api.Rversion, Tag: api.NoTag, Msize: 600, Version: "9P2000"}, api.Msg{Kind: api.Rerror, Tag: 8, Ename: "unknown fid"})
	b, e := p.feed(t, 2, bytes.Join([][]byte{filled(8192), frameOf(aVersion(600)), frameOf(aVersion(1000)), filled(1000)}, nil))
	if l := replies(b); e != api.OK || len(l) != 4 || l[0].Ename != "no version was agreed on" || l[1].Msize != 600 || l[2].Msize != 1000 || l[3].Ename != "unknown fid" {
		t.Errorf("%+v, %d", l, e)
	}
}

// S3: a size that no frame may have ends the connection at its fourth byte; the replies ahead of it are answered, and all bytes behind it are dropped.
func TestBadSizes(t *testing.T) {
	for _, size := range []int{0, 1, 2, 3, 4, 5, 6, 8193, 65536, 65537, 1 << 24, 1 << 31, math.MaxUint32} {
		for _, behind := range [][]byte{nil, {1}, frameOf(aVersion(8192)), make([]byte, 70000)} {
			bad := append(sized(size), behind...)
			withConns(t, config(), 1).over(t, 1, bad)
			p := withSession(t, config())
			p.over(t, 1, append(framesOf(aFlush(3), aClunk(0), aClunk(0)), bad...),
				api.Msg{Kind: api.Rflush, Tag: 13}, api.Msg{Kind: api.Rclunk, Tag: 9}, api.Msg{Kind: api.Rerror, Tag: 9, Ename: "unknown fid"})
			p = withSession(t, config())
			for _, b := range sized(size)[:3] {
				if told, e := p.feed(t, 1, []byte{b}); e != api.OK || len(told) > 0 {
					t.Errorf("%d: %x, %d", size, told, e)
				}
			}
			if len(p.s.Fids(1)) != 2 {
				t.Errorf("%d: it ended ahead of its fourth byte", size)
			}
			p.over(t, 1, bad[3:])
		}
	}
}

// S3: bytes that are no whole frame yet are answered nothing, and wait for the rest, whatever else goes on meanwhile.
func TestUnfinished(t *testing.T) {
	p := withSession(t, config())
	f := frameOf(aCreate(0, "x", 0666, 0))
	for i, b := range f[:len(f)-1] {
		if told, e := p.feed(t, 1, []byte{b}); e != api.OK || len(told) > 0 {
			t.Fatalf("behind %d bytes: %x, %d", i+1, told, e)
		}
		p.feed(t, 1, nil)
		p.tick(1)
		p.done(t, 2, aVersion(8192))
	}
	b, _ := p.feed(t, 1, f[len(f)-1:])
	if l := replies(b); len(l) != 1 || l[0].Kind != api.Rcreate {
		t.Errorf("%+v", l)
	}
	if at := p.is(t, 2).Mtime; at != 5+uint32(len(f)-1) {
		t.Errorf("it was done ahead of its last byte: at %d", at)
	}
	p.wantSame(t)
}

// S3: the frames of one Feed are answered in their order, each ahead of the next one's being done.
func TestOrder(t *testing.T) {
	p := withConns(t, config(), 1)
	b, e := p.feed(t, 1, framesOf(aClunk(0), aVersion(8192), anAttach(0, "ann"), aCreate(0, "x", 0666, 2), aWrite(0, 0, "abc"), aRead(0, 1, 9), aVersion(600), aStat(0), anAttach(0, "ann"), aWalk(0, 1, "x")))
	want := []api.Msg{
		{Kind: api.Rerror, Tag: 9, Ename: "no version was agreed on"},
		{Kind: api.Rversion, Tag: api.NoTag, Msize: 8192, Version: "9P2000"},
		{Kind: api.Rattach, Tag: 3, Qid: api.Qid{Kind: 128, Path: 1}},
		{Kind: api.Rcreate, Tag: 6, Qid: api.Qid{Path: 2}, Iounit: 8168},
		{Kind: api.Rwrite, Tag: 8, Count: 3},
		{Kind: api.Rread, Tag: 7, Data: []byte("bc")},
		{Kind: api.Rversion, Tag: api.NoTag, Msize: 600, Version: "9P2000"},
		{Kind: api.Rerror, Tag: 11, Ename: "unknown fid"},
		{Kind: api.Rattach, Tag: 3, Qid: api.Qid{Kind: 128, Vers: 1, Path: 1}},
		{Kind: api.Rwalk, Tag: 4, Qids: []api.Qid{{Vers: 1, Path: 2}}},
	}
	if e != api.OK || !same(replies(b), want) {
		t.Errorf("%+v, %d", replies(b), e)
	}
	p.wantSame(t)
}

// S3: a very long stream in one Feed.
func TestLongStream(t *testing.T) {
	p := withSession(t, config())
	f := frameOf(aStat(0))
	b, e := p.feed(t, 1, bytes.Repeat(f, 5000))
	if l := replies(b); e != api.OK || len(l) != 5000 {
		t.Errorf("%d replies, %d", len(l), e)
	}
}
