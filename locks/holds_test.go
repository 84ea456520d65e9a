package locks_test

import (
	"math/rand"
	"slices"
	"testing"

	"verger/api"
	"verger/locks"
)

// The chapter's section "What holds", and that a table does as the model: for calls of all kinds, in whatever order.

// A table tells what the model tells; each answer is told often enough to have been held to it.
func TestLikeTheModel(t *testing.T) {
	rnd := rand.New(rand.NewSource(4))
	type kind struct {
		what string
		got  bool
		in   int
		e    api.Errno
	}
	told, stuck := map[kind]int{}, 0
	for range 300 {
		p, people, of := newPair(t), 2+rnd.Intn(14), someLocks(rnd, 1+rnd.Intn(6))
		for range 400 {
			x := p.m.someCall(rnd, people, of)
			r := p.do(t, x)
			told[kind{x.what, r.got, min(len(r.in), 3), r.e}]++
			if rnd.Intn(10) == 0 {
				p.wantSame(t)
				stuck += min(len(p.l.Stuck()), 1)
			}
		}
		p.wantSame(t)
	}
	for _, k := range []kind{
		{"Ask", true, 0, api.OK}, {"Ask", false, 0, api.OK}, {"Ask", false, 0, api.ErrLockWaits}, {"Ask", false, 0, api.ErrLockHeld},
		{"Free", false, 0, api.OK}, {"Free", false, 1, api.OK}, {"Free", false, 2, api.OK}, {"Free", false, 3, api.OK}, {"Free", false, 0, api.ErrArg},
		{"Leave", false, 0, api.OK}, {"Leave", false, 1, api.OK}, {"Leave", false, 2, api.OK}, {"Leave", false, 3, api.OK},
	} {
		if told[k] < 50 {
			t.Errorf("%+v: told %d times", k, told[k])
		}
	}
	if stuck < 100 {
		t.Errorf("%d times somebody was stuck", stuck)
	}
}

// eachCall are all calls of these people, with these locks.
func eachCall(whos []int, of []api.Lock) []call {
	var l []call
	for _, who := range whos {
		l = append(l, leave(who))
		for _, x := range of {
			l = append(l, alone(who, x), together(who, x), free(who, x))
		}
	}
	return l
}

// A few people and locks, in each state into which calls can bring them: there each call is answered as the model says, and does the same.
func TestEachState(t *testing.T) {
	for _, x := range []struct {
		whos   []int
		of     []api.Lock
		states int
	}{
		{[]int{1}, []api.Lock{a, b, c}, 20},
		{[]int{2, 1}, []api.Lock{c, a}, 60},
		{[]int{2, -1, 0}, []api.Lock{b, a}, 1000},
		{[]int{4, 1, 3, 2}, []api.Lock{a}, 300},
	} {
		ways, seen := [][]call{nil}, map[string]bool{}
		for len(ways) > 0 {
			way := ways[0]
			ways = ways[1:]
			for _, next := range eachCall(x.whos, x.of) {
				p := newPair(t)
				for _, ahead := range way {
					p.do(t, ahead)
				}
				p.do(t, next)
				if text := p.m.text(x.whos, x.of); !seen[text] {
					seen[text] = true
					p.wantSame(t)
					ways = append(ways, append(slices.Clone(way), next))
				}
			}
		}
		if len(seen) < x.states {
			t.Errorf("%d people, %d locks: %d states", len(x.whos), len(x.of), len(seen))
		}
	}
}

// wantAlone: one holds a lock alone and nobody else holds it, or all who hold it hold it together.
func wantAlone(t *testing.T, l *locks.Table, of []api.Lock) {
	t.Helper()
	for _, x := range of {
		who := l.Holders(x)
		for _, w := range who {
			if slices.Contains(l.Held(w), api.Need{Lock: x, Alone: true}) && len(who) > 1 {
				t.Fatalf("%v is held by %v, by %d alone", x, who, w)
			}
		}
	}
}

// wantNobodyForgotten: the first one in a queue could not have the lock now.
func wantNobodyForgotten(t *testing.T, l *locks.Table, of []api.Lock) {
	t.Helper()
	for _, x := range of {
		queue, holders := l.Queue(x), l.Holders(x)
		if len(queue) == 0 {
			continue
		}
		first, _ := l.Waits(queue[0])
		if len(holders) == 0 || !first.Alone && slices.Contains(l.Held(holders[0]), api.Need{Lock: x}) {
			t.Fatalf("%d waits for %v (%v), which %v hold", queue[0], x, first.Alone, holders)
		}
	}
}

// wantOnePiece: who holds a lock, and who waits for it, is told the same of the lock and of these people; and nobody does both.
func wantOnePiece(t *testing.T, l *locks.Table, whos []int, of []api.Lock) {
	t.Helper()
	held, waiting := false, false
	for _, who := range whos {
		n, waits := l.Waits(who)
		for _, x := range of {
			holds := slices.ContainsFunc(l.Held(who), func(n api.Need) bool { return n.Lock == x })
			queued := slices.Contains(l.Queue(x), who)
			if slices.Contains(l.Holders(x), who) != holds || queued != (waits && n.Lock == x) || holds && queued {
				t.Fatalf("%d, %v: held %v, queue %v, holders %v, waits %v", who, x, l.Held(who), l.Queue(x), l.Holders(x), n)
			}
			held, waiting = held || holds, waiting || queued
		}
	}
	if l.Idle() == held || waiting && !held {
		t.Fatalf("Idle: %v; somebody holds: %v, waits: %v", l.Idle(), held, waiting)
	}
}

// asked is when somebody asked for what.
type asked struct {
	need api.Need
	at   int
}

// line is who stands in which queue, since when, and of each lock when the last one who was let in had asked.
type line struct {
	since map[int]asked
	last  map[api.Lock]int
}

// in notes that somebody was let in: of two who wait for one lock it is the one who asked first.
func (n line) in(t *testing.T, who int) {
	t.Helper()
	mine, waited := n.since[who]
	if !waited {
		t.Fatalf("%d is let in, and did not wait", who)
	}
	if n.last[mine.need.Lock] > mine.at {
		t.Fatalf("%d is let in to %v behind somebody who asked later", who, mine.need.Lock)
	}
	n.last[mine.need.Lock] = mine.at
	delete(n.since, who)
	for other, x := range n.since {
		if x.need.Lock == mine.need.Lock && x.at < mine.at {
			t.Fatalf("%d is let in to %v, %d asked ahead", who, mine.need.Lock, other)
		}
	}
}

// after notes what came of a call.
func (n line) after(t *testing.T, x call, r answer, at int) {
	t.Helper()
	if x.what == "Leave" {
		delete(n.since, x.who)
	}
	if x.what == "Ask" && r.e == api.OK {
		n.since[x.who] = asked{x.need, at}
		if r.got {
			n.in(t, x.who)
		}
	}
	for _, who := range r.in {
		n.in(t, who)
	}
}

// ALONE IS ALONE, FIRST COME, FIRST SERVED, NOBODY FORGOTTEN: behind each call. (The table alone is asked.)
func TestTheorem(t *testing.T) {
	rnd := rand.New(rand.NewSource(5))
	for range 200 {
		l, m, of := locks.New(), &model{}, someLocks(rnd, 1+rnd.Intn(5))
		people := 2 + rnd.Intn(8)
		whos := make([]int, people)
		for i := range whos {
			whos[i] = i - 1
		}
		n := line{map[int]asked{}, map[api.Lock]int{}}
		for at := range 300 {
			x := m.someCall(rnd, people, of)
			x.meantBy(m) // only to know what may be called next
			n.after(t, x, x.doneBy(l), at)
			for _, who := range whos {
				_, since := n.since[who]
				if _, waits := l.Waits(who); waits != since {
					t.Fatalf("%d waits: %v", who, waits)
				}
			}
			wantAlone(t, l, of)
			wantNobodyForgotten(t, l, of)
			wantOnePiece(t, l, whos, of)
		}
	}
}

// NOBODY FORGOTTEN, to the end: when all have left, each once, whoever was let in behind them too, everything is as in a new table.
func TestAllLeave(t *testing.T) {
	rnd := rand.New(rand.NewSource(6))
	for range 200 {
		p, of := newPair(t), someLocks(rnd, 1+rnd.Intn(5))
		for range 100 {
			p.do(t, p.m.someCall(rnd, 8, of))
		}
		whos := rnd.Perm(8)
		for _, who := range whos {
			p.do(t, leave(who-1))
			p.wantSame(t)
		}
		if !p.l.Idle() || len(p.m.list) > 0 {
			t.Fatalf("%+v", p.m.list)
		}
	}
}

// WHO ASKS RISING NEVER STICKS: whatever is let go, in whatever order; and as long as somebody holds, one who does not wait can let go.
func TestRisingNeverSticks(t *testing.T) {
	rnd := rand.New(rand.NewSource(7))
	waited := 0
	for range 200 {
		l, m, of := locks.New(), &model{}, someLocks(rnd, 2+rnd.Intn(6))
		for range 300 {
			x := m.someCall(rnd, 8, of)
			if held := l.Held(x.who); x.what == "Ask" && len(held) > 0 && locks.Compare(held[len(held)-1].Lock, x.need.Lock) >= 0 {
				continue
			}
			x.meantBy(m)
			x.doneBy(l)
			if got := l.Stuck(); len(got) > 0 {
				t.Fatalf("%v stick: %+v", got, m.list)
			}
			waited += len(m.ringed()) + len(m.queue(x.need.Lock))
		}
	}
	if waited < 1000 {
		t.Errorf("%d waited", waited)
	}
}

// Two who ask for the same two locks, one of them not rising, may stick: the promise hangs on the rule.
func TestNotRisingMayStick(t *testing.T) {
	p := newPair(t)
	p.gets(t, alone(1, a), alone(2, b))
	p.waits(t, alone(2, a), alone(1, b))
	p.stuck(t, 1, 2)
}

// A RING: among those who are stuck each waits for a lock that another one of them holds, or waits for ahead of it; and of those who wait and are not, it is not so, however many of them are taken with the others. (The table alone is asked.)
func TestStuckIsARing(t *testing.T) {
	rnd := rand.New(rand.NewSource(8))
	some, all := 0, 0
	for range 300 {
		l, m, of := locks.New(), &model{}, someLocks(rnd, 2+rnd.Intn(5))
		for range 80 {
			x := m.someCall(rnd, 9, of)
			x.meantBy(m)
			x.doneBy(l)
			var set []int
			for who := -1; who < 8; who++ {
				if _, waits := l.Waits(who); waits {
					set = append(set, who)
				}
			}
			waiting := len(set)
			for at := 0; at >= 0; {
				if at = slices.IndexFunc(set, func(who int) bool { return !standsBehind(l, who, set) }); at >= 0 {
					set = slices.Delete(set, at, at+1)
				}
			}
			if got := l.Stuck(); !slices.Equal(got, set) {
				t.Fatalf("Stuck of %+v: %v, want %v", m.list, got, set)
			}
			if len(set) > 0 && len(set) < waiting {
				some++
			} else if len(set) > 0 {
				all++
			}
		}
	}
	if some < 100 || all < 100 {
		t.Errorf("some were stuck %d times, all who waited %d times", some, all)
	}
}

// standsBehind tells whether somebody waits for a lock that another one of a set holds, or waits for ahead of it.
func standsBehind(l *locks.Table, who int, set []int) bool {
	n, _ := l.Waits(who)
	ahead := l.Queue(n.Lock)
	ahead = ahead[:slices.Index(ahead, who)]
	return slices.ContainsFunc(append(ahead, l.Holders(n.Lock)...), func(other int) bool { return slices.Contains(set, other) })
}
