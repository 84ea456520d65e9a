package solo_test

import (
	"bytes"
	"math"
	"math/rand"
	"strings"
	"testing"

	"verger/api"
)

// wantAsk asks through a port.
func (p pair) wantAsk(t *testing.T, conn int, q, want api.Msg, wantE api.Errno) {
	t.Helper()
	if r, e := p.ask(t, conn, q); e != wantE || !same(r, want) {
		failf(t, "Port(%d).Ask(%s) = %s, %d; want %s, %d", conn, shown(q), shown(r), e, shown(want), wantE)
	}
	p.wantSame(t)
}

// S6: a request, and its reply.
func TestAsk(t *testing.T) {
	p := withConns(t, config(), 1)
	p.wantAsk(t, 1, aStat(0), api.Msg{Kind: api.Rerror, Tag: 11, Ename: "no version was agreed on"}, api.OK)
	p.wantAsk(t, 1, aVersion(600), api.Msg{Kind: api.Rversion, Tag: api.NoTag, Msize: 600, Version: "9P2000"}, api.OK)
	p.wantAsk(t, 1, anAttach(0, "ann"), api.Msg{Kind: api.Rattach, Tag: 3, Qid: api.Qid{Kind: 128, Path: 1}}, api.OK)
	p.wantAsk(t, 1, aCreate(0, "x", 0600, 2), api.Msg{Kind: api.Rcreate, Tag: 6, Qid: api.Qid{Path: 2}, Iounit: 576}, api.OK)
	p.wantAsk(t, 1, aWrite(0, 0, "abc"), api.Msg{Kind: api.Rwrite, Tag: 8, Count: 3}, api.OK)
	p.wantAsk(t, 1, aRead(0, 0, 100), api.Msg{Kind: api.Rread, Tag: 7, Data: []byte("abc")}, api.OK)
	p.wantAsk(t, 1, aFlush(7), api.Msg{Kind: api.Rflush, Tag: 13}, api.OK)
	p.wantAsk(t, 1, api.Msg{Kind: api.Rwrite, Tag: 5}, api.Msg{Kind: api.Rerror, Tag: 5, Ename: "unknown message"}, api.OK)
	p.wantAsk(t, 1, api.Msg{Kind: api.Tclunk, Tag: api.NoTag}, api.Msg{Kind: api.Rerror, Tag: api.NoTag, Ename: "bad tag"}, api.OK)
	p.wantAsk(t, 1, api.Msg{Kind: api.Tclunk, Tag: 4, Count: 7, Names: []string{"\xff"}, Stat: api.Stat{Name: "\x00"}}, api.Msg{Kind: api.Rclunk, Tag: 4}, api.OK)
}

// S6: what can't be written is refused ahead of all else, whatever the connection is; nothing is fed.
func TestAskNoMessage(t *testing.T) {
	p := withSession(t, config())
	p.open(t)
	p.close(t, 3)
	long := strings.Repeat("x", 70000)
	for _, conn := range []int{1, 2, 3, 4, 0, -1, math.MaxInt} {
		for _, q := range []api.Msg{
			{}, {Kind: 99}, {Kind: api.Terror}, {Kind: 128}, {Kind: 255},
			{Kind: api.Tversion, Version: "\xff"}, {Kind: api.Tattach, Uname: "a\x00"}, {Kind: api.Twalk, Names: make([]string, 17)}, {Kind: api.Rwalk, Qids: make([]api.Qid, 17)},
			{Kind: api.Twrite, Data: []byte(long)}, {Kind: api.Tcreate, Name: long}, {Kind: api.Twstat, Stat: api.Stat{Name: "\xff"}},
		} {
			p.wantAsk(t, conn, q, api.Msg{}, api.ErrMsgArg)
		}
	}
	p.done(t, 1, aStat(0))
}

// S6: an error of Feed is the answer's; a port is there for any number, also ahead of its connection.
func TestAskNobody(t *testing.T) {
	p := withSession(t, config())
	early := p.s.Port(3)
	for _, conn := range []int{math.MinInt, -1, 0, 3, 99, math.MaxInt} {
		p.wantAsk(t, conn, aVersion(8192), api.Msg{}, api.ErrSrvConn)
	}
	p.open(t)
	if r, e := early.Ask(aVersion(600)); e != api.OK || r.Msize != 600 {
		t.Errorf("%s, %d", shown(r), e)
	}
	p.m.ask(3, aVersion(600))
	p.wantSame(t)
	p.close(t, 3)
	if r, e := early.Ask(aVersion(600)); e != api.ErrClosed || !same(r, api.Msg{}) {
		t.Errorf("%s, %d", shown(r), e)
	}
	p.wantAsk(t, 3, aVersion(8192), api.Msg{}, api.ErrClosed)
}

// S6: no reply: the connection has ended by this frame, or an unfinished one ahead has swallowed it.
func TestAskWithoutReply(t *testing.T) {
	p := withSession(t, config())
	p.wantAsk(t, 1, aWrite(0, 0, strings.Repeat("x", 9000)), api.Msg{}, api.ErrClientDown)
	p.wantOver(t, 1)
	p.wantAsk(t, 1, aStat(0), api.Msg{}, api.ErrClosed)

	p = withSession(t, config())
	p.feed(t, 1, []byte{100, 0})
	p.wantAsk(t, 1, aStat(0), api.Msg{}, api.ErrClientDown)
	p.wantOver(t, 1) // these bytes made a size of 11 times 65536 and more

	p = withSession(t, config())
	p.feed(t, 1, append(sized(100), 118, 8, 0))
	p.wantAsk(t, 1, aStat(0), api.Msg{}, api.ErrClientDown)
	if _, e := p.feed(t, 1, nil); e != api.OK {
		t.Errorf("it waits for more: %d", e)
	}
}

// S6: of several replies the last one of the tag is the answer; one of another tag is none.
func TestAskOfSeveral(t *testing.T) {
	for _, c := range []struct {
		ahead []byte
		want  api.Msg
		wantE api.Errno
	}{
		// What is asked, eleven bytes, is swallowed by a frame of the same tag, or of another one, which is whole by it or is not.
		{append(sized(7+11), 120, 11, 0), api.Msg{Kind: api.Rerror, Tag: 11, Ename: "bad message"}, api.OK},
		{append(sized(7+11), 120, 12, 0), api.Msg{}, api.ErrClientDown},
		{append(sized(7+12), 120, 11, 0), api.Msg{}, api.ErrClientDown},
	} {
		p := withSession(t, config())
		if b, e := p.feed(t, 1, c.ahead); len(b) > 0 || e != api.OK {
			t.Fatalf("%x, %d", b, e)
		}
		p.wantAsk(t, 1, aStat(0), c.want, c.wantE)
	}
	// A Twrite's frame whose data are whole frames: its own head is swallowed, and they are answered, one by one.
	p := withSession(t, config())
	p.feed(t, 1, append(sized(7+23), 109, 1, 0))
	within := func(l ...api.Msg) api.Msg { return aWrite(77, 0, string(framesOf(l...))) }
	tagged := func(q api.Msg, tag uint16) api.Msg {
		q.Tag = tag
		return q
	}
	q := within(tagged(aStat(0), 8), tagged(aFlush(1), 9), tagged(aFlush(2), 8), tagged(aStat(9), 10))
	p.wantAsk(t, 1, q, api.Msg{Kind: api.Rflush, Tag: 8}, api.OK)
	p.feed(t, 1, append(sized(7+23), 109, 8, 0))
	p.wantAsk(t, 1, within(tagged(aFlush(1), 9), tagged(aFlush(1), 7)), api.Msg{Kind: api.Rerror, Tag: 8, Ename: "unknown message"}, api.OK)
	p.feed(t, 1, append(sized(7+23), 109, 1, 0))
	p.wantAsk(t, 1, within(tagged(aFlush(1), 9), tagged(aFlush(1), 7)), api.Msg{}, api.ErrClientDown)
	// The connection ends by what stands behind a reply: that is the answer all the same.
	p.feed(t, 1, append(sized(7+23), 109, 1, 0))
	p.wantAsk(t, 1, aWrite(77, 0, string(frameOf(tagged(aFlush(1), 8)))+"\x00\x00\x00\x00"), api.Msg{Kind: api.Rflush, Tag: 8}, api.OK)
	p.wantOver(t, 1)
}

// S6: the greatest messages that a session may have.
func TestAskMuch(t *testing.T) {
	c := config()
	c.Msize = 65536
	p := withConns(t, c, 1)
	p.wantAsk(t, 1, aVersion(65536), api.Msg{Kind: api.Rversion, Tag: api.NoTag, Msize: 65536, Version: "9P2000"}, api.OK)
	p.done(t, 1, anAttach(0, "ann"))
	p.done(t, 1, aCreate(0, "x", 0600, 2))
	data := strings.Repeat("0123456", 10000)[:65512] // as much as one message can have
	p.wantAsk(t, 1, aWrite(0, 0, data), api.Msg{Kind: api.Rwrite, Tag: 8, Count: uint32(len(data))}, api.OK)
	p.wantAsk(t, 1, aWrite(0, uint64(len(data)), "0123456789"), api.Msg{Kind: api.Rwrite, Tag: 8, Count: 10}, api.OK)
	p.wantAsk(t, 1, aRead(0, 0, math.MaxUint32), api.Msg{Kind: api.Rread, Tag: 7, Data: []byte(data)}, api.OK)
}

// S6: a port and Feed are two ways to one connection, and two ports are ports of it, too: whatever is asked by which, it is as if all were fed.
func TestPortsAndFeeds(t *testing.T) {
	rnd := rand.New(rand.NewSource(20))
	for range 60 {
		p := withConns(t, someConfig(rnd), 3)
		for range 100 {
			s := somebody{rnd, p.m.w, 1 + rnd.Intn(3)}
			switch rnd.Intn(12) {
			case 0:
				f := s.frame()
				p.feed(t, s.conn, f[:rnd.Intn(len(f)+1)])
			case 1, 2, 3:
				p.feed(t, s.conn, s.frame())
			default:
				p.ask(t, s.conn, s.request())
			}
		}
		p.wantSame(t)
	}
}

// S6: what a port answers is what a Feed answers, read as a message.
func TestAskIsFeed(t *testing.T) {
	rnd := rand.New(rand.NewSource(21))
	for range 40 {
		c := someConfig(rnd)
		one, other := withConns(t, c, 2), withConns(t, c, 2)
		for range 150 {
			s := somebody{rnd, one.m.w, 1 + rnd.Intn(2)}
			q := s.request()
			r, e := one.ask(t, s.conn, q)
			b, feedE := other.feed(t, s.conn, frameOf(q))
			if e == api.ErrClientDown {
				e = api.OK
			}
			if e != feedE || r.Kind == 0 && len(b) > 0 || r.Kind != 0 && !bytes.Equal(b, frameOf(r)) {
				failf(t, "%s: Ask: %s, %d; Feed: %x, %d", shown(q), shown(r), e, b, feedE)
			}
		}
	}
}
