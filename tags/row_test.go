package tags_test

import (
	"math"
	"testing"

	"verger/api"
)

// full is a message with something in all that a table may copy.
func full(tag uint16) api.Msg {
	return api.Msg{Kind: api.Rread, Tag: tag, Msize: 1, Version: "v", Afid: 2, Uname: "u", Aname: "a", Ename: "e", Oldtag: 3, Fid: 4, Newfid: 5,
		Names: []string{"x", "y"}, Qids: []api.Qid{{Kind: 128, Vers: 6, Path: 7}}, Qid: api.Qid{Kind: 1, Vers: 8, Path: 9}, Mode: 10, Iounit: 11, Name: "n", Perm: 12,
		Offset: 13, Count: 14, Data: []byte("data"), Stat: api.Stat{Type: 15, Dev: 16, Qid: api.Qid{Path: 17}, Mode: 18, Atime: 19, Mtime: 20, Length: 21, Name: "s", Uid: "u", Gid: "g", Muid: "m"}}
}

// A reply has the request's tag, whatever stood in it, and is the caller's message else, whatever its kind is.
func TestReplyTag(t *testing.T) {
	for _, m := range []api.Msg{full(99), full(1), full(api.NoTag), {}, {Kind: 106}, {Kind: api.Tclunk, Tag: 7}} {
		p := newPair(t, 8)
		p.does(t, begin(5, 1))
		p.decides(t, 1)
		p.does(t, reply(1, m))
		m.Tag = 5
		if l := p.l.Waiting(); len(l) != 1 || !sameMsg(l[0], m) {
			t.Errorf("Waiting: %+v", l)
		}
		p.writes(t, m, 1)
	}
}

// An Rflush has its own tag, and nothing else.
func TestRflush(t *testing.T) {
	p := newPair(t, 8)
	p.does(t, begin(5, 1))
	p.decides(t, 1)
	p.does(t, flush(6, 5, 2), flush(7, 5, 3), flush(8, 9, 4), reply(1, full(0)), flush(9, 5, 5))
	if l := p.l.Waiting(); len(l) != 5 || !sameMsg(l[0], rflush(8)) || !sameMsg(l[2], rflush(6)) || !sameMsg(l[3], rflush(7)) || !sameMsg(l[4], rflush(9)) {
		t.Errorf("%+v", l)
	}
}

// Only what was decided is answered, and once.
func TestReplyNone(t *testing.T) {
	p := newPair(t, 8)
	p.refuses(t, reply(0, full(1)), api.ErrTagNone)
	p.does(t, begin(1, 1), begin(2, 2))
	p.refuses(t, reply(1, full(1)), api.ErrTagNone)
	p.decides(t, 1)
	p.refuses(t, reply(2, full(1)), api.ErrTagNone)
	p.does(t, reply(1, full(1)))
	p.refuses(t, reply(1, full(1)), api.ErrTagNone)
	p.writes(t, full(1), 1)
	p.refuses(t, reply(1, full(1)), api.ErrTagNone)
	p.does(t, begin(1, 3))
	p.refuses(t, reply(1, full(1)), api.ErrTagNone)
	p.refuses(t, reply(3, full(1)), api.ErrTagNone)
	for _, id := range []int{-1, 4, math.MinInt, math.MaxInt} {
		p.refuses(t, reply(id, full(1)), api.ErrTagNone)
	}
}

// Requests are answered in whatever order, each by its own tag; the row has them in that order.
func TestReplyOrder(t *testing.T) {
	p := newPair(t, 8)
	p.does(t, begin(1, 1), begin(2, 2), begin(3, 3))
	p.decides(t, 2, 3, 1)
	p.does(t, reply(3, rclunk(0)), reply(1, rclunk(0)), reply(2, rclunk(0)))
	p.wantWaiting(t, 3, 1, 2)
	p.writes(t, rclunk(3), 3)
	p.wantRows(t, api.TagRow{Tag: 1, Serial: 1, State: api.TagAnswered}, api.TagRow{Tag: 2, Serial: 2, State: api.TagAnswered})
	p.writes(t, rclunk(1), 1)
	p.writes(t, rclunk(2), 2)
	p.wantAll(t, next(), answer{})
}

// What is said stands in the row as it is, with any id and any tag, and means none of the table's.
func TestSay(t *testing.T) {
	p := newPair(t, 1)
	for _, id := range []int{0, 1, -1, math.MinInt, math.MaxInt} {
		for _, m := range []api.Msg{full(0), full(api.NoTag), {}, rflush(3)} {
			p.does(t, say(id, m))
		}
	}
	p.wantRows(t)
	p.does(t, begin(3, 1))
	for _, id := range []int{0, 1, -1, math.MinInt, math.MaxInt} {
		for _, m := range []api.Msg{full(0), full(api.NoTag), {}, rflush(3)} {
			p.writes(t, m, id)
		}
	}
	p.wantRows(t, api.TagRow{Tag: 3, Serial: 1, State: api.TagOpen})
}

// What is said with the id, and the tag, of what the table has frees nothing, in whatever state that is.
func TestSayOfOthers(t *testing.T) {
	p := newPair(t, 8)
	p.does(t, begin(1, 1), begin(2, 2), begin(3, 3), begin(4, 4))
	p.decides(t, 2, 3)
	for id := 1; id <= 6; id++ {
		p.does(t, say(id, rflush(uint16(id))))
	}
	p.does(t, reply(3, rclunk(0)), flush(5, 2, 5))
	p.cancels(t, flush(6, 4, 6), 4)
	for id := 1; id <= 6; id++ {
		p.writes(t, rflush(uint16(id)), id)
		if l := p.l.Rows(); len(l) != 6 {
			t.Errorf("%d: %v", id, l)
		}
	}
	p.writes(t, rclunk(3), 3)
	p.does(t, say(6, rflush(6)))
	p.writes(t, rflush(6), 6)
	p.wantRows(t, api.TagRow{Tag: 1, Serial: 1, State: api.TagOpen}, api.TagRow{Tag: 2, Serial: 2, State: api.TagDecided}, api.TagRow{Tag: 5, Serial: 5, State: api.TagFlush})
	p.writes(t, rflush(6), 6)
}

// Ids with which something was said are not begun by that.
func TestSayBeginsNothing(t *testing.T) {
	p := newPair(t, 8)
	p.does(t, say(9, rclunk(1)), begin(1, 1), decide(9))
	p.refuses(t, reply(9, rclunk(1)), api.ErrTagNone)
	p.writes(t, rclunk(1), 9)
	p.wantRows(t, api.TagRow{Tag: 1, Serial: 1, State: api.TagOpen})
	p.does(t, begin(2, 2))
}

// The row is first in, first out, however it grows and shrinks.
func TestNext(t *testing.T) {
	p := newPair(t, 8)
	p.wantAll(t, next(), answer{})
	id := 0
	for round := range 6 {
		for range 5 {
			id++
			p.does(t, say(id, rclunk(uint16(id))))
		}
		for range 4 + round%3 {
			p.do(t, next())
			p.wantSame(t)
		}
	}
	for len(p.m.row) > 0 {
		p.do(t, next())
		p.wantSame(t)
	}
	p.wantAll(t, next(), answer{})
	p.wantAll(t, next(), answer{})
}

// A tag is taken from its beginning up to its reply's writing: not only up to its being put in the row.
func TestNextFrees(t *testing.T) {
	p := newPair(t, 8)
	for id := 1; id < 40; id += 2 {
		p.does(t, begin(1, id))
		p.refuses(t, begin(1, id+1), api.ErrTagUsed)
		p.decides(t, id)
		p.refuses(t, begin(1, id+1), api.ErrTagUsed)
		p.does(t, reply(id, rclunk(0)))
		p.refuses(t, begin(1, id+1), api.ErrTagUsed)
		p.writes(t, rclunk(1), id)
		p.does(t, flush(1, 1, id+1))
		p.refuses(t, begin(1, id+2), api.ErrTagUsed)
		p.writes(t, rflush(1), id+1)
	}
}
