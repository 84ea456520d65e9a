package tags_test

import (
	"math"
	"testing"

	"verger/api"
	"verger/tags"
)

// A table has 1 to 64 tags.
func TestNew(t *testing.T) {
	for _, most := range []int{1, 2, 63, 64} {
		p := newPair(t, most)
		p.wantSame(t)
		p.wantAll(t, next(), answer{})
		p.wantAll(t, reset(), answer{})
	}
	for _, most := range []int{0, -1, 65, 66, math.MinInt, math.MaxInt, 1<<32 + 1, 256 + 1} {
		if l, e := tags.New(most); l != nil || e != api.ErrArg {
			t.Errorf("New(%d): %v, %v", most, l, e)
		}
	}
}

// A request is open at first, and can be decided then, once.
func TestBegin(t *testing.T) {
	p := newPair(t, 64)
	for i, tag := range []uint16{0, 1, 255, 256, 65534} {
		p.does(t, begin(tag, i+1))
	}
	p.wantRows(t, api.TagRow{Tag: 0, Serial: 1, State: api.TagOpen}, api.TagRow{Tag: 1, Serial: 2, State: api.TagOpen}, api.TagRow{Tag: 255, Serial: 3, State: api.TagOpen},
		api.TagRow{Tag: 256, Serial: 4, State: api.TagOpen}, api.TagRow{Tag: 65534, Serial: 5, State: api.TagOpen})
	p.wantWaiting(t)
	p.decides(t, 5, 1)
	p.does(t, decide(5), decide(1))
	p.wantRows(t, api.TagRow{Tag: 0, Serial: 1, State: api.TagDecided}, api.TagRow{Tag: 1, Serial: 2, State: api.TagOpen}, api.TagRow{Tag: 255, Serial: 3, State: api.TagOpen},
		api.TagRow{Tag: 256, Serial: 4, State: api.TagOpen}, api.TagRow{Tag: 65534, Serial: 5, State: api.TagDecided})
}

// Rows rise by their tags, whatever their ids are.
func TestRowsRise(t *testing.T) {
	p := newPair(t, 64)
	p.does(t, begin(65534, 1), begin(7, 2), begin(300, 3), flush(0, 9, 4), begin(8, 50))
	p.wantRows(t, api.TagRow{Tag: 0, Serial: 4, State: api.TagFlushed}, api.TagRow{Tag: 7, Serial: 2, State: api.TagOpen}, api.TagRow{Tag: 8, Serial: 50, State: api.TagOpen},
		api.TagRow{Tag: 300, Serial: 3, State: api.TagOpen}, api.TagRow{Tag: 65534, Serial: 1, State: api.TagOpen})
}

// either is a request or a flush of a tag and an id.
func either() []func(tag uint16, id int) call {
	return []func(tag uint16, id int) call{begin, func(tag uint16, id int) call { return flush(tag, 2, id) }}
}

// An id is above 0, and above all with which something was begun, whatever has come of that; of those that were refused nothing is known.
func TestBeginID(t *testing.T) {
	for _, way := range either() {
		p := newPair(t, 5)
		for _, id := range []int{0, -1, math.MinInt} {
			p.refuses(t, way(1, id), api.ErrArg)
		}
		p.does(t, begin(1, 5))
		for _, id := range []int{5, 4, 1, 0, -5, math.MinInt} {
			p.refuses(t, way(2, id), api.ErrArg)
		}
		p.refuses(t, way(1, 100), api.ErrTagUsed)
		p.refuses(t, way(api.NoTag, 100), api.ErrTag)
		p.does(t, flush(3, 3, 6))
		p.refuses(t, way(2, 6), api.ErrArg)
		p.writes(t, rflush(3), 6)
		p.refuses(t, way(2, 6), api.ErrArg)
		p.does(t, way(4, 7))
		p.does(t, begin(5, math.MaxInt))
		p.refuses(t, way(6, math.MaxInt), api.ErrArg)
		p.refuses(t, way(6, 8), api.ErrArg)
		p.refuses(t, way(6, math.MinInt), api.ErrArg)
	}
}

// NoTag is nobody's.
func TestBeginNoTag(t *testing.T) {
	for _, way := range either() {
		p := newPair(t, 1)
		p.refuses(t, way(api.NoTag, 1), api.ErrTag)
		p.does(t, way(api.NoTag-1, 1))
		p.refuses(t, way(api.NoTag, 2), api.ErrTag)
	}
}

// A tag that is taken can't be begun with, in whatever state that is which has it.
func TestBeginUsed(t *testing.T) {
	for _, way := range either() {
		p := newPair(t, 8)
		p.does(t, begin(1, 1), begin(2, 2), begin(3, 3), begin(4, 4))
		p.decides(t, 2, 3)
		p.does(t, reply(3, rclunk(3)), flush(5, 2, 5))
		p.cancels(t, flush(6, 4, 6), 4)
		p.wantRows(t, api.TagRow{Tag: 1, Serial: 1, State: api.TagOpen}, api.TagRow{Tag: 2, Serial: 2, State: api.TagDecided}, api.TagRow{Tag: 3, Serial: 3, State: api.TagAnswered},
			api.TagRow{Tag: 4, Serial: 4, State: api.TagCancelled}, api.TagRow{Tag: 5, Serial: 5, State: api.TagFlush}, api.TagRow{Tag: 6, Serial: 6, State: api.TagFlushed})
		for tag := range uint16(6) {
			p.refuses(t, way(tag+1, 7), api.ErrTagUsed)
		}
		p.does(t, way(7, 7))
	}
}

// A table has as many tags as it was made for: each one that is taken counts, whoever has it; a row that is long does not.
func TestBeginFull(t *testing.T) {
	for _, most := range []int{1, 2, 3, 17, 63, 64} {
		for _, way := range either() {
			p := newPair(t, most)
			for i := range most {
				p.does(t, say(1, rclunk(9)), way(uint16(100+i), i+1))
			}
			p.refuses(t, way(5, most+1), api.ErrTagFull)
			p.refuses(t, begin(5, most+1), api.ErrTagFull)
			p.refuses(t, flush(5, 100, most+1), api.ErrTagFull)
			p.refuses(t, flush(5, 5, most+1), api.ErrTagFull)
		}
	}
}

// There is room again when a tag is taken no more; of a cancelled request both tags are then.
func TestBeginRoomAgain(t *testing.T) {
	p := newPair(t, 2)
	p.does(t, begin(1, 1))
	p.cancels(t, flush(2, 1, 2), 1)
	p.refuses(t, begin(3, 3), api.ErrTagFull)
	p.writes(t, rflush(2), 2)
	p.does(t, begin(3, 3), begin(4, 4))
	p.refuses(t, flush(5, 4, 5), api.ErrTagFull)
	p.decides(t, 3)
	p.refuses(t, begin(5, 5), api.ErrTagFull)
	p.does(t, reply(3, rclunk(0)))
	p.refuses(t, begin(5, 5), api.ErrTagFull)
	p.writes(t, rclunk(3), 3)
	p.does(t, begin(5, 5))
	p.refuses(t, begin(6, 6), api.ErrTagFull)
}

// Where several errors apply, the first one is told.
func TestBeginOrder(t *testing.T) {
	for _, way := range either() {
		p := newPair(t, 1)
		p.does(t, begin(1, 5))
		p.refuses(t, way(api.NoTag, 5), api.ErrArg)
		p.refuses(t, way(1, 5), api.ErrArg)
		p.refuses(t, way(2, 5), api.ErrArg)
		p.refuses(t, way(api.NoTag, 6), api.ErrTag)
		p.refuses(t, way(1, 6), api.ErrTagUsed)
		p.refuses(t, way(2, 6), api.ErrTagFull)
	}
}

// A flush that is refused cancels nothing, and an id that was refused can still be begun with.
func TestFlushRefused(t *testing.T) {
	p := newPair(t, 2)
	p.does(t, begin(1, 1), begin(2, 2))
	p.refuses(t, flush(3, 1, 2), api.ErrArg)
	p.refuses(t, flush(api.NoTag, 1, 3), api.ErrTag)
	p.refuses(t, flush(2, 1, 3), api.ErrTagUsed)
	p.refuses(t, flush(1, 1, 3), api.ErrTagUsed)
	p.refuses(t, flush(3, 1, 3), api.ErrTagFull)
	p.decides(t, 1)
	p.does(t, reply(1, rclunk(0)))
	p.writes(t, rclunk(1), 1)
	p.cancels(t, flush(1, 2, 3), 2)
}

// A decision is asked for by an id: not by one that nothing has, nor by a flush's.
func TestDecideOthers(t *testing.T) {
	p := newPair(t, 8)
	p.does(t, begin(7, 10), flush(8, 9, 11))
	for _, id := range []int{0, -1, 1, 7, 8, 9, 11, 12, -10, math.MinInt, math.MaxInt} {
		p.does(t, decide(id))
		p.refuses(t, reply(id, rclunk(7)), api.ErrTagNone)
	}
	p.decides(t, 10)
	p.does(t, flush(1, 7, 12), decide(12), decide(10))
	p.refuses(t, reply(12, rclunk(1)), api.ErrTagNone)
	p.does(t, reply(10, rclunk(0)), decide(10))
	p.writes(t, rflush(8), 11)
	p.writes(t, rclunk(7), 10)
	p.does(t, decide(10), decide(11), decide(12))
}
