package solo_test

import (
	"bytes"
	"fmt"
	"testing"

	"verger/api"
	"verger/auth"
	"verger/stat"
)

// refusal is the reply of a request that is refused.
func refusal(tag uint16, e api.Errno) api.Msg {
	return api.Msg{Kind: api.Rerror, Tag: tag, Ename: e.Error()}
}

// wantReply does a request, and asks that it is answered so.
func (p pair) wantReply(t *testing.T, conn int, q, want api.Msg) {
	t.Helper()
	if r := p.do(t, conn, q); !same(r, want) {
		failf(t, "%d, %s: %s, want %s", conn, shown(q), shown(r), shown(want))
	}
	p.wantSame(t)
}

// The chapter's example 1.
func TestExampleSession(t *testing.T) {
	p := withConns(t, config(), 1)
	p.wantReply(t, 1, api.Msg{Kind: api.Tclunk, Tag: 1}, refusal(1, api.ErrSession))
	p.wantReply(t, 1, api.Msg{Kind: api.Tversion, Tag: 1, Msize: 8192, Version: "9P2000"}, refusal(1, api.ErrTag))
	p.wantReply(t, 1, api.Msg{Kind: api.Tversion, Tag: 65535, Msize: 65536, Version: "9P2000.u"}, api.Msg{Kind: api.Rversion, Tag: 65535, Msize: 8192, Version: "9P2000"})
	p.wantReply(t, 1, aVersion(511), refusal(65535, api.ErrMsize))
	p.done(t, 1, anAttach(0, "ann")) // the session is there still
}

// The chapter's example 2.
func TestExampleChunks(t *testing.T) {
	b := framesOf(aVersion(8192), anAttach(0, "ann"))
	p := withConns(t, config(), 1)
	once, _ := p.feed(t, 1, b)
	p = withConns(t, config(), 1)
	var told []byte
	for i := range b {
		more, _ := p.feed(t, 1, b[i:i+1])
		told = append(told, more...)
	}
	if !bytes.Equal(once, told) || !bytes.Equal(once, framesOf(api.Msg{Kind: api.Rversion, Tag: 65535, Msize: 8192, Version: "9P2000"}, api.Msg{Kind: api.Rattach, Tag: 3, Qid: api.Qid{Kind: 128, Path: 1}})) {
		t.Errorf("%x, byte by byte %x", once, told)
	}
}

// The chapter's example 3.
func TestExampleFrames(t *testing.T) {
	p := withConns(t, config(), 1)
	for _, c := range []struct {
		b    []byte
		want api.Msg
	}{
		{[]byte{7, 0, 0, 0, 0x6a, 9, 0}, refusal(9, api.ErrMsgKind)},
		{[]byte{8, 0, 0, 0, 0x78, 7, 0, 1}, refusal(7, api.ErrMsgBody)},
	} {
		if b, e := p.feed(t, 1, c.b); e != api.OK || !bytes.Equal(b, frameOf(c.want)) {
			t.Errorf("%x: %x, %d", c.b, b, e)
		}
	}
	p.over(t, 1, []byte{6, 0, 0, 0})
}

// The chapter's example 4.
func TestExampleLimits(t *testing.T) {
	p := withConns(t, config(), 1)
	p.done(t, 1, aVersion(600))
	p.over(t, 1, filled(601))
	p = withConns(t, config(), 16)
	if n, e := p.open(t); n != 0 || e != api.ErrSrvConns {
		t.Errorf("Open: %d, %d", n, e)
	}
	p.close(t, 1)
	if n, e := p.open(t); n != 17 || e != api.OK {
		t.Errorf("Open: %d, %d", n, e)
	}
}

// The chapter's example 5.
func TestExamplePort(t *testing.T) {
	p := withSession(t, config())
	big := aWrite(0, 0, string(make([]byte, 9000)))
	p.wantAsk(t, 1, big, api.Msg{}, api.ErrClientDown)
	p.wantAsk(t, 1, big, api.Msg{}, api.ErrClosed)
	p.wantAsk(t, 99, big, api.Msg{}, api.ErrSrvConn)
	p.wantAsk(t, 1, api.Msg{Kind: 106}, api.Msg{}, api.ErrMsgArg)
}

// shows goes through the exchange of a user by an authentication's fid: whether the server has shown itself, too.
func (p pair) shows(t *testing.T, conn int, afid uint32, user, key string) bool {
	t.Helper()
	hello := p.done(t, conn, aRead(afid, 0, 100)).Data
	answer, _ := auth.Answer(key, user, "", hello, 0x1234)
	p.done(t, conn, aWrite(afid, 0, string(answer[:20])))
	p.done(t, conn, aWrite(afid, 20, string(answer[20:])))
	proof := p.do(t, conn, aRead(afid, 0, 100)).Data
	return auth.Confirms(key, user, "", hello, 0x1234, proof)
}

// The document's examples 1 to 4: a session, a user who has a key, who may write, a walk that ends early.
func TestExampleFirst(t *testing.T) {
	p := withConns(t, config(), 1)
	p.wantReply(t, 1, aVersion(65536), api.Msg{Kind: api.Rversion, Tag: 65535, Msize: 8192, Version: "9P2000"})
	p.wantReply(t, 1, anAttach(0, "ann"), api.Msg{Kind: api.Rattach, Tag: 3, Qid: api.Qid{Kind: 128, Path: 1}})
	p.wantReply(t, 1, anAttach(5, "eve"), refusal(3, api.ErrAuth))
	p.done(t, 1, anAuth(6, "eve"))
	if !p.shows(t, 1, 6, "eve", "k") {
		t.Error("the server has not shown itself")
	}
	p.wantReply(t, 1, attachBy(5, 6, "eve"), api.Msg{Kind: api.Rattach, Tag: 3, Qid: api.Qid{Kind: 128, Path: 1}})
	p.done(t, 1, aWalk(0, 1))
	p.wantReply(t, 1, aCreate(1, "x", 0666, 2), api.Msg{Kind: api.Rcreate, Tag: 6, Qid: api.Qid{Path: 2}, Iounit: 8168})
	if n := p.is(t, 2); n.Mode != 0644 {
		t.Errorf("%+v", n)
	}
	p.done(t, 1, anAttach(9, "bob"))
	p.done(t, 1, aWalk(9, 10, "x"))
	p.wantReply(t, 1, anOpen(10, 1), refusal(5, api.ErrPerm))
	a := p.make(t, 1, "a", dirBit|0755)
	p.wantReply(t, 1, aWalk(0, 11, "a", "b"), api.Msg{Kind: api.Rwalk, Tag: 4, Qids: []api.Qid{{Kind: 128, Path: a}}})
	p.wantReply(t, 1, aStat(11), refusal(11, api.ErrFid))
	p.wantReply(t, 1, aWalk(0, 11, "b", "a"), refusal(4, api.ErrNone))
}

// The document's examples 8 to 10: what is removed, a directory that is read while it changes, a connection that ends.
func TestExampleLast(t *testing.T) {
	c := config()
	c.Nodes = 200
	p := withSession(t, c)
	p.done(t, 2, aVersion(8192))
	p.done(t, 2, anAttach(0, "bob"))
	p.make(t, 1, "x", 0666)
	p.done(t, 2, aWalk(0, 1, "x"))
	p.done(t, 1, aWalk(0, 1, "x"))
	p.done(t, 1, aRemove(1))
	p.wantReply(t, 2, aStat(1), refusal(11, api.ErrGone))
	p.wantReply(t, 2, aClunk(1), api.Msg{Kind: api.Rclunk, Tag: 9})

	for i := range 100 {
		p.make(t, 1, fmt.Sprint("file", i), 0644)
	}
	p.done(t, 2, aWalk(0, 2))
	p.done(t, 2, anOpen(2, 0))
	told, offset := map[string]int{}, uint64(0)
	for i := 0; ; i++ {
		b := p.done(t, 2, aRead(2, offset, 300)).Data
		if len(b) == 0 {
			break
		}
		offset += uint64(len(b))
		l, _ := stat.Records(b)
		for _, s := range l {
			told[s.Name]++
		}
		if i < 40 {
			p.make(t, 1, fmt.Sprint("new", i), 0644)
		}
		if i < 40 && i%2 > 0 {
			p.done(t, 1, aWalk(0, 30, fmt.Sprint("new", i-1)))
			p.done(t, 1, aRemove(30))
		}
	}
	for i := range 100 {
		if name := fmt.Sprint("file", i); told[name] != 1 {
			t.Errorf("%s was told %d times", name, told[name])
		}
	}

	p.done(t, 1, aWalk(0, 40))
	p.done(t, 1, aCreate(40, "goes", 0666, 0x40))
	p.done(t, 1, aWalk(0, 41))
	path := p.done(t, 1, aCreate(41, "alone", exclBit|0666, 0)).Qid.Path
	fids := p.s.Fids(2)
	p.over(t, 1, []byte{3, 0, 0, 0})
	if p.isThere(path-1) || p.is(t, path).Opens != 0 || !same(p.s.Fids(2), fids) {
		t.Errorf("%+v", p.s.Nodes())
	}
}
