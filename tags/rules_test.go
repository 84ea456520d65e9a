package tags_test

import (
	"math"
	"math/rand"
	"runtime"
	"slices"
	"sync"
	"testing"

	"verger/api"
	"verger/tags"
)

func wildID(rnd *rand.Rand, near int) int {
	return oneOf(rnd, 0, 1, -1, math.MinInt, math.MaxInt, int(rnd.Uint64()), near, near+1, near+1, near+1, near-rnd.Intn(5))
}

func wildTag(rnd *rand.Rand) uint16 {
	return oneOf(rnd, 0, 1, 2, 65534, 65535, uint16(rnd.Uint32()))
}

// R1: nothing panics and all ends, whatever is handed in; R5: an error is one of the chapter's, and beside it there is nothing.
func TestAnything(t *testing.T) {
	rnd := rand.New(rand.NewSource(5))
	for range 300 {
		p := newPair(t, 1+rnd.Intn(64))
		for range 100 {
			near := p.m.greatest()
			x := call{oneOf(rnd, "Begin", "Begin", "Flush", "Flush", "Decide", "Reply", "Say", "Next", "Reset"), wildTag(rnd), wildTag(rnd), wildID(rnd, near), someMsg(rnd)}
			if x.what == "Reset" && rnd.Intn(9) > 0 || x.id == math.MaxInt && rnd.Intn(9) > 0 {
				continue
			}
			r := p.do(t, x)
			if r.e != api.OK && !r.is(answer{e: r.e}) || !slices.Contains([]api.Errno{api.OK, api.ErrArg, api.ErrTag, api.ErrTagUsed, api.ErrTagFull, api.ErrTagNone}, r.e) {
				t.Fatalf("%+v: %+v", x, r)
			}
		}
		p.wantSame(t)
	}
}

// R1: all ends, also where there are many: replies in a row, requests one behind the other, flushes, resets.
func TestMany(t *testing.T) {
	const many = 100000
	l, e := tags.New(api.MaxTags)
	if e != api.OK {
		t.Fatal(e)
	}
	for id := 1; id <= many; id++ {
		l.Say(id, rclunk(uint16(id)))
	}
	for id := 1; id <= many; id++ {
		if m, n, ok := l.Next(); m.Tag != uint16(id) || n != id || !ok {
			t.Fatalf("%d: %+v, %d, %v", id, m, n, ok)
		}
	}
	for id := 1; id <= many; id += 2 {
		tag := uint16(id % 1000)
		if l.Begin(tag, id) != api.OK || !l.Decide(id) {
			t.Fatalf("%d", id)
		}
		if n, e := l.Flush(tag+1, tag, id+1); n != 0 || e != api.OK || l.Reply(id, rclunk(0)) != api.OK {
			t.Fatalf("%d: %d, %v", id, n, e)
		}
		_, first, _ := l.Next()
		if _, second, _ := l.Next(); first != id || second != id+1 || len(l.Rows()) > 0 {
			t.Fatalf("%d: %d, %d, %v", id, first, second, l.Rows())
		}
		l.Reset()
	}
}

// spoil writes into all lists of a message, spare room too.
func spoil(l ...api.Msg) {
	for _, m := range l {
		names, qids, data := m.Names[:cap(m.Names)], m.Qids[:cap(m.Qids)], m.Data[:cap(m.Data)]
		for i := range names {
			names[i] = "spoilt"
		}
		for i := range qids {
			qids[i] = api.Qid{Kind: 77}
		}
		for i := range data {
			data[i] = 77
		}
	}
}

// R2: of a message that is handed in nothing is kept as it is, and nothing is written into it, nor into its spare room.
func TestHandedInStays(t *testing.T) {
	rnd := rand.New(rand.NewSource(6))
	for range 200 {
		p := newPair(t, 8)
		p.does(t, begin(1, 1), begin(2, 2))
		p.decides(t, 1, 2)
		m := someMsg(rnd)
		spareOf(m)
		was := deep(whole(m))
		p.does(t, reply(1, m), flush(3, 1, 3), say(7, m), reply(2, m))
		p.writes(t, withTag(m, 1), 1)
		if !sameMsg(whole(m), was) {
			t.Fatalf("%+v, was %+v", whole(m), was)
		}
		spoil(m)
		p.wantSame(t)
		for len(p.m.row) > 0 {
			p.do(t, next())
		}
	}
}

// spareOf marks a message's spare room.
func spareOf(m api.Msg) {
	for i := len(m.Data); i < cap(m.Data); i++ {
		m.Data[:cap(m.Data)][i] = byte(200 + i)
	}
	for i := len(m.Names); i < cap(m.Names); i++ {
		m.Names[:cap(m.Names)][i] = "spare"
	}
	for i := len(m.Qids); i < cap(m.Qids); i++ {
		m.Qids[:cap(m.Qids)][i].Vers = 99
	}
}

// whole is a message with its spare room.
func whole(m api.Msg) api.Msg {
	m.Names, m.Qids, m.Data = m.Names[:cap(m.Names)], m.Qids[:cap(m.Qids)], m.Data[:cap(m.Data)]
	return m
}

func withTag(m api.Msg, tag uint16) api.Msg {
	m = deep(m)
	m.Tag = tag
	return m
}

// R2: what comes out is new memory, spare room too: of each call, of each time that it is asked.
func TestComesOutNew(t *testing.T) {
	rnd := rand.New(rand.NewSource(7))
	for range 100 {
		p := newPair(t, 8)
		for range 100 {
			r := p.do(t, p.m.someCall(rnd, 6))
			spoil(r.m)
			for i := range r.ids[:cap(r.ids)] {
				r.ids[:cap(r.ids)][i] = 77
			}
			rows, waiting := p.l.Rows(), p.l.Waiting()
			for i := range rows[:cap(rows)] {
				rows[:cap(rows)][i] = api.TagRow{Tag: 77}
			}
			spoil(waiting...)
			for i := range waiting[:cap(waiting)] {
				waiting[:cap(waiting)][i] = api.Msg{Tag: 77}
			}
			p.wantSame(t)
		}
	}
}

// R2: lists that came out of one call, or of two, share nothing with one another.
func TestComesOutApart(t *testing.T) {
	p := newPair(t, 8)
	p.does(t, say(1, full(1)), say(2, full(2)), say(3, full(3)))
	one, other := p.l.Waiting(), p.l.Waiting()
	first, _, _ := p.l.Next()
	spoil(one[0], one[1])
	if !sameMsg(one[2], full(3)) || !sameMsg(other[0], full(1)) || !sameMsg(other[1], full(2)) || !sameMsg(first, full(1)) {
		t.Errorf("%+v, %+v, %+v", one, other, first)
	}
	spoil(first, other[1])
	if m, _, _ := p.l.Next(); !sameMsg(m, full(2)) || !sameMsg(other[0], full(1)) {
		t.Errorf("%+v, %+v", m, other)
	}
}

// R2: what came out stays as it was, whatever is done to the table then.
func TestComesOutForGood(t *testing.T) {
	p := newPair(t, 8)
	p.does(t, begin(1, 1), begin(2, 2), begin(3, 3), say(9, full(7)), say(9, full(8)))
	rows, waiting := p.l.Rows(), p.l.Waiting()
	m, _, _ := p.l.Next()
	p.l.Decide(1)
	p.l.Reply(1, full(50))
	open := p.l.Reset()
	for id := 4; id < 9; id++ {
		p.l.Begin(uint16(id), id)
		p.l.Say(id, full(60))
	}
	p.l.Reset()
	want := []api.TagRow{{Tag: 1, Serial: 1, State: api.TagOpen}, {Tag: 2, Serial: 2, State: api.TagOpen}, {Tag: 3, Serial: 3, State: api.TagOpen}}
	if !slices.Equal(rows, want) || !sameMsg(m, full(7)) || !slices.EqualFunc(waiting, []api.Msg{full(7), full(8)}, sameMsg) || !slices.Equal(open, []int{2, 3}) {
		t.Errorf("%v, %+v, %+v, %v", rows, m, waiting, open)
	}
}

// R3: the same calls are answered the same by each table, whatever is asked between, and whatever is done to others.
func TestSameAgain(t *testing.T) {
	rnd := rand.New(rand.NewSource(8))
	for range 50 {
		one, other, third := newPair(t, 6), newPair(t, 6), newPair(t, 6)
		for range 150 {
			x := one.m.someCall(rnd, 5)
			r := one.do(t, x)
			third.do(t, third.m.someCall(rnd, 5))
			other.wantSame(t)
			if again := other.do(t, x); !again.is(r) {
				t.Fatalf("%+v: %+v, %+v", x, r, again)
			}
		}
		one.wantSame(t)
		third.wantSame(t)
	}
}

// R3: tables know nothing of one another: a tag that is taken in one is free in another, and an id unused.
func TestTablesApart(t *testing.T) {
	one, other := newPair(t, 1), newPair(t, 1)
	one.does(t, begin(1, 5))
	other.does(t, begin(1, 5))
	one.decides(t, 5)
	other.wantRows(t, api.TagRow{Tag: 1, Serial: 5, State: api.TagOpen})
	one.does(t, reply(5, rclunk(0)))
	other.wantWaiting(t)
	other.wantAll(t, reset(), answer{ids: []int{5}})
	one.writes(t, rclunk(1), 5)
}

// Nothing is kept in common from table to table: goroutines that have one each do not disturb one another.
func TestApart(t *testing.T) {
	var all sync.WaitGroup
	for seed := range int64(4) {
		p := newPair(t, 5)
		all.Go(func() {
			rnd := rand.New(rand.NewSource(seed))
			for range 300 {
				x := p.m.someCall(rnd, 6)
				if r, want := x.doneBy(p.l), x.meantBy(p.m); !r.is(want) || !slices.Equal(p.l.Rows(), p.m.rows()) {
					t.Errorf("%+v: %+v, want %+v", x, r, want)
				}
			}
		})
	}
	all.Wait()
}

// R4: nothing goes on when a call has answered.
func TestNoGoroutines(t *testing.T) {
	was := runtime.NumGoroutine()
	p := newPair(t, 3)
	p.does(t, begin(1, 1), begin(2, 2))
	p.decides(t, 1)
	p.does(t, flush(3, 1, 3), reply(1, rclunk(0)), say(4, rclunk(4)))
	p.writes(t, rclunk(1), 1)
	p.wantAll(t, reset(), answer{ids: []int{2}})
	if n := runtime.NumGoroutine(); n > was {
		t.Errorf("%d goroutines more", n-was)
	}
}
