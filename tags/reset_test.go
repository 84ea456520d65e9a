package tags_test

import (
	"slices"
	"testing"

	"verger/api"
)

// A reset tells those that are open, rising, and empties the table and the row.
func TestReset(t *testing.T) {
	p := newPair(t, 9)
	p.does(t, begin(8, 1), begin(7, 2), begin(6, 3), begin(5, 4), begin(4, 5), begin(3, 6))
	p.decides(t, 2, 4)
	p.does(t, reply(4, rclunk(0)), flush(2, 7, 7), say(99, rclunk(9)))
	p.cancels(t, flush(1, 4, 8), 5)
	p.wantAll(t, reset(), answer{ids: []int{1, 3, 6}})
	p.wantRows(t)
	p.wantWaiting(t)
	p.wantAll(t, next(), answer{})
	p.wantAll(t, reset(), answer{})
}

// What was begun ahead of a reset can neither be decided nor answered, nor does it free anything.
func TestResetIsForGood(t *testing.T) {
	p := newPair(t, 8)
	p.does(t, begin(1, 1), begin(2, 2), begin(3, 3))
	p.decides(t, 2, 3)
	p.does(t, flush(4, 2, 4), reply(3, rclunk(0)))
	p.wantAll(t, reset(), answer{ids: []int{1}})
	for id := range 6 {
		p.does(t, decide(id))
		p.refuses(t, reply(id, rclunk(1)), api.ErrTagNone)
	}
	p.does(t, begin(1, 5), begin(2, 6), begin(4, 7))
	for id := range 5 {
		p.does(t, decide(id))
		p.refuses(t, reply(id, rclunk(1)), api.ErrTagNone)
	}
	p.decides(t, 6)
	p.does(t, reply(6, rclunk(0)))
	p.wantWaiting(t, 2)
	p.writes(t, rclunk(2), 6)
	p.wantRows(t, api.TagRow{Tag: 1, Serial: 5, State: api.TagOpen}, api.TagRow{Tag: 4, Serial: 7, State: api.TagOpen})
}

// Ids go on rising: from the greatest one with which something was begun, whatever it was.
func TestResetIDs(t *testing.T) {
	for _, first := range either() {
		p := newPair(t, 3)
		p.does(t, first(1, 50))
		p.do(t, reset())
		for _, id := range []int{50, 49, 1, 0} {
			p.refuses(t, begin(1, id), api.ErrArg)
			p.refuses(t, flush(1, 2, id), api.ErrArg)
		}
		p.does(t, begin(1, 51))
	}
}

// A table has room for as many as ahead, again and again.
func TestResetRoom(t *testing.T) {
	p, id := newPair(t, 3), 0
	for range 5 {
		var want []int
		for tag := range uint16(3) {
			id++
			p.does(t, begin(tag, id))
			want = append(want, id)
		}
		p.refuses(t, begin(7, id+1), api.ErrTagFull)
		if a := p.do(t, reset()); !slices.Equal(a.ids, want) {
			t.Errorf("%v, want %v", a.ids, want)
		}
		p.wantSame(t)
	}
}
