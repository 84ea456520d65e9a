package locks_test

import (
	"math"
	"math/rand"
	"runtime"
	"slices"
	"sync"
	"testing"

	"verger/api"
	"verger/locks"
)

// wildLock is a lock of whatever stands in its fields.
func wildLock(rnd *rand.Rand) api.Lock {
	return api.Lock{Kind: api.LockKind(rnd.Uint32()), Conn: wildNumber(rnd), Num: rnd.Uint64() >> rnd.Intn(64)}
}

func wildNumber(rnd *rand.Rand) int {
	return oneOf(rnd, 0, 1, -1, math.MinInt, math.MaxInt, int(rnd.Uint64()), rnd.Intn(5))
}

// R1: nothing panics and all ends, whatever is handed in; R5: an error is one of the chapter's, and beside it there is nothing.
func TestAnything(t *testing.T) {
	rnd := rand.New(rand.NewSource(9))
	for range 100 {
		p, of := newPair(t), []api.Lock{wildLock(rnd), wildLock(rnd), wildLock(rnd)}
		for range 200 {
			l := oneOf(rnd, append(of, wildLock(rnd))...)
			x := call{oneOf(rnd, "Ask", "Ask", "Ask", "Free", "Leave"), wildNumber(rnd), api.Need{Lock: l, Alone: rnd.Intn(2) > 0}}
			r := p.do(t, x)
			if r.e != api.OK && (r.got || len(r.in) > 0) || !slices.Contains([]api.Errno{api.OK, api.ErrArg, api.ErrLockHeld, api.ErrLockWaits}, r.e) {
				t.Fatalf("%+v: %+v", x, r)
			}
			p.wantSameOf(t, wildNumber(rnd))
			if c := locks.Compare(l, wildLock(rnd)); c < -1 || c > 1 {
				t.Fatalf("Compare: %d", c)
			}
			p.l.Queue(wildLock(rnd))
			p.l.Holders(wildLock(rnd))
		}
		p.wantSame(t)
	}
}

// R1: all ends, also where there are many: who wait for one lock, who hold it, who stand in one ring.
func TestMany(t *testing.T) {
	const many = 5000
	p, ring := locks.New(), locks.New()
	for who := range many {
		p.Ask(who, api.Need{Lock: a, Alone: who == 0 || who > many/2})
		p.Ask(-1-who, api.Need{Lock: node(who), Alone: true})
		ring.Ask(who, api.Need{Lock: node(who), Alone: true})
	}
	for who := range many {
		ring.Ask(who, api.Need{Lock: node((who + 1) % many), Alone: true})
	}
	if n := len(ring.Stuck()); n != many {
		t.Errorf("%d of a ring are stuck", n)
	}
	if l := ring.Leave(7); len(ring.Stuck()) > 0 || !slices.Equal(l, []int{6}) {
		t.Errorf("%v, %v", l, ring.Stuck())
	}
	if len(p.Stuck()) > 0 || len(p.Queue(a)) != many-1 {
		t.Errorf("%v, %d in the queue", p.Stuck(), len(p.Queue(a)))
	}
	if l := p.Leave(0); len(l) != many/2 || len(p.Holders(a)) != many/2 {
		t.Errorf("%d are let in", len(l))
	}
	for who := many - 1; who > 0; who-- {
		if in := p.Leave(who); len(in) > 0 {
			t.Errorf("Leave(%d): %v", who, in)
		}
		p.Leave(-1 - who)
	}
	p.Leave(-1)
	if !p.Idle() {
		t.Error("Idle")
	}
}

func spoil(l []int) {
	l = l[:cap(l)]
	for i := range l {
		l[i] = 77
	}
}

func spoilNeeds(l []api.Need) {
	l = l[:cap(l)]
	for i := range l {
		l[i] = api.Need{Lock: c, Alone: true}
	}
}

// R2: lists that come out are new memory, spare room too: of each call, of each time that it is asked.
func TestComesOutNew(t *testing.T) {
	rnd := rand.New(rand.NewSource(10))
	for range 100 {
		p, of := newPair(t), someLocks(rnd, 3)
		for range 100 {
			spoil(p.do(t, p.m.someCall(rnd, 12, of)).in)
			for _, l := range of {
				queue, holders, stuck := p.l.Queue(l), p.l.Holders(l), p.l.Stuck()
				spoil(queue)
				spoil(holders)
				spoil(stuck)
			}
			for who := range 12 {
				spoilNeeds(p.l.Held(who))
			}
			p.wantSame(t)
		}
	}
}

// R2: what came out stays as it was, whatever is done to the table, and to what came out with it.
func TestComesOutForGood(t *testing.T) {
	p := newPair(t)
	p.gets(t, alone(1, a), alone(1, b))
	p.waits(t, together(2, a), together(3, a), alone(4, a), alone(5, a), together(6, b), together(7, b), alone(8, b))
	queue, again, held, holders := p.l.Queue(a), p.l.Queue(a), p.l.Held(1), p.l.Holders(a)
	_ = append(queue[:2], 50)
	in := p.l.Leave(1)
	p.m.leave(1)
	p.letsIn(t, leave(2))
	p.letsIn(t, leave(3), 4)
	p.letsIn(t, leave(4), 5)
	p.waits(t, alone(11, a), alone(12, a), alone(13, a), alone(14, a), alone(15, a))
	wantWho(t, "Queue", again, 2, 3, 4, 5)
	wantWho(t, "Holders", holders, 1)
	wantWho(t, "Leave", in, 2, 3, 6, 7)
	if !slices.Equal(held, []api.Need{{Lock: a, Alone: true}, {Lock: b, Alone: true}}) {
		t.Errorf("Held: %v", held)
	}
}

// R3: the same calls are answered the same by each table, whatever is asked between, and whatever is done to others.
func TestSameAgain(t *testing.T) {
	rnd := rand.New(rand.NewSource(11))
	for range 50 {
		of := someLocks(rnd, 5)
		one, other, third := newPair(t), newPair(t), newPair(t)
		for range 200 {
			x := one.m.someCall(rnd, 9, of)
			r := one.do(t, x)
			third.do(t, third.m.someCall(rnd, 9, of))
			other.wantSame(t)
			if again := other.do(t, x); !again.is(r) {
				t.Fatalf("%+v: %+v, %+v", x, r, again)
			}
		}
		one.wantSame(t)
		third.wantSame(t)
	}
}

// R3: tables know nothing of one another: what is held in one is free in another.
func TestTablesApart(t *testing.T) {
	one, other := newPair(t), newPair(t)
	one.gets(t, alone(1, a))
	one.waits(t, alone(2, a))
	other.gets(t, alone(2, a))
	other.waits(t, alone(1, a))
	one.refuses(t, free(2, a), api.ErrArg)
	one.letsIn(t, leave(1), 2)
	other.wantSame(t)
	other.letsIn(t, leave(2), 1)
	one.wantSame(t)
}

// Nothing is kept in common from table to table: goroutines that have one each do not disturb one another.
func TestApart(t *testing.T) {
	var all sync.WaitGroup
	for seed := range int64(4) {
		p := newPair(t)
		all.Go(func() {
			rnd := rand.New(rand.NewSource(seed))
			of := someLocks(rnd, 4)
			for range 500 {
				x := p.m.someCall(rnd, 8, of)
				if r, want := x.doneBy(p.l), x.meantBy(p.m); !r.is(want) || !slices.Equal(p.l.Stuck(), p.m.stuck()) {
					t.Errorf("%+v: %+v, want %+v", x, r, want)
				}
			}
		})
	}
	all.Wait()
}

// R4: nothing goes on when a call has answered.
func TestNoGoroutines(t *testing.T) {
	was := runtime.NumGoroutine()
	p := newPair(t)
	p.gets(t, alone(1, a))
	p.waits(t, alone(2, a))
	p.stuck(t)
	p.refuses(t, free(2, a), api.ErrArg)
	p.letsIn(t, leave(1), 2)
	if n := runtime.NumGoroutine(); n > was {
		t.Errorf("%d goroutines more", n-was)
	}
}
