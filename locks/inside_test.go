package locks

import (
	"fmt"
	"math/rand"
	"slices"
	"testing"

	"verger/api"
)

// wantKept: what nobody holds is not kept, nor who holds nothing, or does not wait.
func wantKept(t *testing.T, l *Table) {
	t.Helper()
	holds, waits := 0, 0
	for key, k := range l.locks {
		if len(k.holders) == 0 {
			t.Fatalf("%v is kept, and nobody holds it", key)
		}
		holds, waits = holds+len(k.holders), waits+len(k.queue)
	}
	for who, held := range l.held {
		if len(held) == 0 {
			t.Fatalf("%d is kept, and holds nothing", who)
		}
		holds -= len(held)
	}
	if holds != 0 || waits != len(l.waits) {
		t.Fatalf("%d are held by somebody and not of somebody; %d stand in queues, %d wait", holds, waits, len(l.waits))
	}
}

// Locks that nobody holds are deleted from the table, and people who have nothing to do with any; behind each call.
func TestNothingIsKept(t *testing.T) {
	rnd := rand.New(rand.NewSource(13))
	for range 100 {
		l := New()
		for range 200 {
			who, lock := rnd.Intn(8), api.Lock{Kind: api.LockNode, Num: uint64(rnd.Intn(5))}
			switch rnd.Intn(6) {
			case 0:
				l.Leave(who)
			case 1, 2:
				l.Free(who, lock)
			default:
				l.Ask(who, api.Need{Lock: lock, Alone: rnd.Intn(2) > 0})
			}
			l.Stuck()
			l.Held(100 + who)
			l.Queue(api.Lock{Num: 9})
			wantKept(t, l)
		}
		for who := range 8 {
			l.Leave(who)
		}
		if len(l.locks)+len(l.held)+len(l.waits) > 0 {
			t.Fatalf("%v, %v, %v", l.locks, l.held, l.waits)
		}
	}
}

// Those who are let in are cut off a queue: what is put behind them is not put into it.
func TestQueuesAreCut(t *testing.T) {
	l := &lock{holders: map[int]struct{}{}, queue: []asker{{1, false}, {2, false}, {3, true}, {4, true}}}
	in := l.next()
	_ = append(in, asker{9, true})
	if !slices.Equal(in, []asker{{1, false}, {2, false}}) || !slices.Equal(l.queue, []asker{{3, true}, {4, true}}) {
		t.Errorf("%v, %v", in, l.queue)
	}
}

// said is all that a table tells of some people and locks.
func said(l *Table) string {
	text := ""
	for num := range 10 {
		n, waits := l.Waits(num)
		key := api.Lock{Num: uint64(num)}
		text += fmt.Sprintln(l.Held(num), n, waits, l.Queue(key), l.Holders(key))
	}
	return text
}

// A clone tells the same; and then goes its own way, as the table does that it was made of.
func TestCloneApart(t *testing.T) {
	rnd := rand.New(rand.NewSource(14))
	for range 100 {
		l := New()
		some := func(l *Table) {
			for range 60 {
				l.Ask(rnd.Intn(10), api.Need{Lock: api.Lock{Num: uint64(rnd.Intn(4))}, Alone: rnd.Intn(2) > 0})
				if rnd.Intn(4) == 0 {
					l.Leave(rnd.Intn(10))
				}
			}
		}
		some(l)
		other, was := l.clone(), said(l)
		if said(other) != was {
			t.Fatalf("of %s a clone is %s", was, said(other))
		}
		some(other)
		if said(l) != was {
			t.Fatalf("of %s is left %s", was, said(l))
		}
		is := said(other)
		some(l)
		if said(other) != is {
			t.Fatalf("of the clone %s is left %s", is, said(other))
		}
		wantKept(t, l)
		wantKept(t, other)
	}
}
