package tags_test

import (
	"testing"

	"verger/api"
)

// A flush of a tag that is not taken, or of its own, changes nothing: its Rflush is in the row at once.
func TestFlushNothing(t *testing.T) {
	for _, old := range []uint16{0, 2, 4, 5, 65534, api.NoTag} {
		p := newPair(t, 8)
		p.does(t, begin(1, 1), begin(3, 2))
		p.decides(t, 2)
		p.does(t, flush(5, old, 3))
		p.wantRows(t, api.TagRow{Tag: 1, Serial: 1, State: api.TagOpen}, api.TagRow{Tag: 3, Serial: 2, State: api.TagDecided}, api.TagRow{Tag: 5, Serial: 3, State: api.TagFlushed})
		p.wantWaiting(t, 5)
		p.writes(t, rflush(5), 3)
		p.wantRows(t, api.TagRow{Tag: 1, Serial: 1, State: api.TagOpen}, api.TagRow{Tag: 3, Serial: 2, State: api.TagDecided})
		p.decides(t, 1)
	}
}

// A flush of an open request cancels it, once: it can't be decided any more, nor answered.
func TestFlushOpen(t *testing.T) {
	p := newPair(t, 8)
	p.does(t, begin(1, 1), begin(2, 2))
	p.cancels(t, flush(3, 1, 3), 1)
	p.wantRows(t, api.TagRow{Tag: 1, Serial: 1, State: api.TagCancelled}, api.TagRow{Tag: 2, Serial: 2, State: api.TagOpen}, api.TagRow{Tag: 3, Serial: 3, State: api.TagFlushed})
	p.does(t, decide(1))
	p.refuses(t, reply(1, rclunk(1)), api.ErrTagNone)
	p.decides(t, 2)
	p.writes(t, rflush(3), 3)
	p.does(t, decide(1))
	p.refuses(t, reply(1, rclunk(1)), api.ErrTagNone)
	p.wantRows(t, api.TagRow{Tag: 2, Serial: 2, State: api.TagDecided})
}

// Further flushes of a cancelled request are answered at once, in their order; the first one's Rflush frees its tag.
func TestFlushCancelled(t *testing.T) {
	p := newPair(t, 8)
	p.does(t, begin(1, 1))
	p.cancels(t, flush(4, 1, 2), 1)
	p.does(t, flush(3, 1, 3), flush(2, 1, 4))
	p.wantWaiting(t, 4, 3, 2)
	p.writes(t, rflush(4), 2)
	p.wantRows(t, api.TagRow{Tag: 2, Serial: 4, State: api.TagFlushed}, api.TagRow{Tag: 3, Serial: 3, State: api.TagFlushed})
	p.writes(t, rflush(3), 3)
	p.writes(t, rflush(2), 4)
	p.wantRows(t)
}

// An Rflush frees the tag of the request that it took back alone: not of a new one that has the tag since, in whatever state that is.
func TestFlushFreesItsOwn(t *testing.T) {
	for n, then := range [][]call{{}, {decide(5)}, {decide(5), reply(5, rclunk(0))}, {flush(6, 1, 6)}, {decide(5), flush(6, 1, 6)}} {
		p := newPair(t, 8)
		p.does(t, begin(1, 1))
		p.cancels(t, flush(2, 1, 2), 1)
		p.does(t, flush(3, 1, 3), flush(4, 1, 4))
		p.writes(t, rflush(2), 2)
		p.does(t, begin(1, 5))
		for _, c := range then {
			p.do(t, c)
		}
		state := p.l.Rows()[0]
		p.writes(t, rflush(3), 3)
		p.writes(t, rflush(4), 4)
		if got := p.l.Rows()[0]; got != state || got.Tag != 1 || got.Serial != 5 {
			t.Errorf("%d: %v, was %v", n, got, state)
		}
	}
}

// Nor of a flush that has the tag since.
func TestFlushFreesNoFlush(t *testing.T) {
	p := newPair(t, 8)
	p.does(t, begin(1, 1), begin(9, 2))
	p.decides(t, 2)
	p.cancels(t, flush(2, 1, 3), 1)
	p.does(t, flush(3, 1, 4))
	p.writes(t, rflush(2), 3)
	p.does(t, flush(1, 9, 5))
	p.writes(t, rflush(3), 4)
	p.wantRows(t, api.TagRow{Tag: 1, Serial: 5, State: api.TagFlush}, api.TagRow{Tag: 9, Serial: 2, State: api.TagDecided})
}

// A flush of a request that was decided waits for its reply, and stands behind it.
func TestFlushDecided(t *testing.T) {
	p := newPair(t, 8)
	p.does(t, begin(1, 1))
	p.decides(t, 1)
	p.does(t, flush(2, 1, 2), say(7, rclunk(70)))
	p.wantRows(t, api.TagRow{Tag: 1, Serial: 1, State: api.TagDecided}, api.TagRow{Tag: 2, Serial: 2, State: api.TagFlush})
	p.wantWaiting(t, 70)
	p.does(t, reply(1, rclunk(0)))
	p.wantRows(t, api.TagRow{Tag: 1, Serial: 1, State: api.TagAnswered}, api.TagRow{Tag: 2, Serial: 2, State: api.TagFlushed})
	p.wantWaiting(t, 70, 1, 2)
	p.does(t, say(7, rclunk(71)))
	p.writes(t, rclunk(70), 7)
	p.writes(t, rclunk(1), 1)
	p.wantRows(t, api.TagRow{Tag: 2, Serial: 2, State: api.TagFlushed})
	p.writes(t, rflush(2), 2)
	p.writes(t, rclunk(71), 7)
}

// A flush of a request that was answered, and whose reply waits, is answered behind it.
func TestFlushAnswered(t *testing.T) {
	p := newPair(t, 8)
	p.does(t, begin(1, 1))
	p.decides(t, 1)
	p.does(t, reply(1, rclunk(0)), flush(2, 1, 2), flush(3, 1, 3))
	p.wantWaiting(t, 1, 2, 3)
	p.wantRows(t, api.TagRow{Tag: 1, Serial: 1, State: api.TagAnswered}, api.TagRow{Tag: 2, Serial: 2, State: api.TagFlushed}, api.TagRow{Tag: 3, Serial: 3, State: api.TagFlushed})
	p.writes(t, rclunk(1), 1)
	p.does(t, begin(1, 4))
	p.writes(t, rflush(2), 2)
	p.writes(t, rflush(3), 3)
	p.wantRows(t, api.TagRow{Tag: 1, Serial: 4, State: api.TagOpen})
}

// A flush of a flush that has its Rflush in the row is answered at once; it takes nothing back.
func TestFlushFlushed(t *testing.T) {
	p := newPair(t, 8)
	p.does(t, begin(1, 1))
	p.cancels(t, flush(2, 1, 2), 1)
	p.does(t, flush(3, 2, 3), flush(4, 3, 4))
	p.wantWaiting(t, 2, 3, 4)
	p.writes(t, rflush(2), 2)
	p.does(t, begin(1, 5), begin(2, 6))
	p.writes(t, rflush(3), 3)
	p.writes(t, rflush(4), 4)
	p.wantRows(t, api.TagRow{Tag: 1, Serial: 5, State: api.TagOpen}, api.TagRow{Tag: 2, Serial: 6, State: api.TagOpen})
}

// A flush of a flush that waits waits, too; the reply lets all go that wait for it, or for one that does, and so on, in the order in which they were begun.
func TestFlushChain(t *testing.T) {
	p := newPair(t, 16)
	p.does(t, begin(1, 1), begin(2, 2))
	p.decides(t, 1, 2)
	p.does(t, flush(13, 1, 3), flush(12, 2, 4), flush(11, 13, 5), flush(10, 11, 6), flush(9, 12, 7), flush(8, 1, 8), flush(7, 10, 9), flush(6, 2, 10))
	p.wantWaiting(t)
	p.does(t, reply(1, rclunk(0)))
	p.wantWaiting(t, 1, 13, 11, 10, 8, 7)
	p.does(t, reply(2, rclunk(0)))
	p.wantWaiting(t, 1, 13, 11, 10, 8, 7, 2, 12, 9, 6)
	for range 10 {
		p.do(t, next())
		p.wantSame(t)
	}
	p.wantRows(t)
}

// As long a chain as a table can have, each flush of the one ahead of it, by falling tags.
func TestFlushLongChain(t *testing.T) {
	p := newPair(t, api.MaxTags)
	p.does(t, begin(100, 1))
	p.decides(t, 1)
	want := []uint16{100}
	for i := 1; i < api.MaxTags; i++ {
		p.does(t, flush(uint16(100-i), uint16(101-i), i+1))
		want = append(want, uint16(100-i))
	}
	p.refuses(t, flush(7, 100, 65), api.ErrTagFull)
	p.does(t, reply(1, rclunk(0)))
	p.wantWaiting(t, want...)
	for i, tag := range want {
		if m, id, ok := p.l.Next(); m.Tag != tag || id != i+1 || !ok {
			t.Errorf("%d: %+v, %d, %v", i, m, id, ok)
		}
	}
	if l := p.l.Rows(); len(l) > 0 {
		t.Errorf("%v", l)
	}
}

// A flush names what had the tag when it was begun: not what has it later.
func TestFlushOfThen(t *testing.T) {
	p := newPair(t, 8)
	p.does(t, flush(2, 1, 1), begin(1, 2))
	p.writes(t, rflush(2), 1)
	p.wantRows(t, api.TagRow{Tag: 1, Serial: 2, State: api.TagOpen})
	p.decides(t, 2)
	p.does(t, reply(2, rclunk(0)), flush(2, 1, 3))
	p.writes(t, rclunk(1), 2)
	p.does(t, begin(1, 4))
	p.cancels(t, flush(3, 1, 5), 4)
	p.writes(t, rflush(2), 3)
	p.wantRows(t, api.TagRow{Tag: 1, Serial: 4, State: api.TagCancelled}, api.TagRow{Tag: 3, Serial: 5, State: api.TagFlushed})
	p.writes(t, rflush(3), 5)
	p.wantRows(t)
}
