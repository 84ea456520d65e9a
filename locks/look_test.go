package locks_test

import (
	"math"
	"math/rand"
	"slices"
	"testing"

	"verger/api"
)

// A table in which nobody holds or waits tells nothing of anybody.
func TestLookNothing(t *testing.T) {
	p := newPair(t)
	p.wantSame(t)
	for _, who := range []int{math.MinInt, -1, 0, 1, math.MaxInt} {
		n, ok := p.l.Waits(who)
		if len(p.l.Held(who)) > 0 || ok || n != (api.Need{}) {
			t.Errorf("%d: %v, %v, %v", who, p.l.Held(who), n, ok)
		}
	}
	for _, l := range edges() {
		if len(p.l.Queue(l)) > 0 || len(p.l.Holders(l)) > 0 {
			t.Errorf("%v: %v, %v", l, p.l.Queue(l), p.l.Holders(l))
		}
	}
	if len(p.l.Stuck()) > 0 || !p.l.Idle() {
		t.Errorf("%v, %v", p.l.Stuck(), p.l.Idle())
	}
}

// What somebody holds is told rising, in whatever order they asked for it, each alone or together.
func TestHeldRises(t *testing.T) {
	rnd := rand.New(rand.NewSource(2))
	for range 10 {
		p := newPair(t)
		l := edges()
		rnd.Shuffle(len(l), func(i, j int) { l[i], l[j] = l[j], l[i] })
		want := map[api.Lock]bool{}
		for _, x := range l[:40] {
			want[x] = rnd.Intn(2) > 0
			p.gets(t, call{"Ask", 7, api.Need{Lock: x, Alone: want[x]}})
		}
		got := p.l.Held(7)
		for i, n := range got {
			if is, there := want[n.Lock]; !there || n.Alone != is || i > 0 && !lower(got[i-1].Lock, n.Lock) {
				t.Fatalf("Held: %v", got)
			}
		}
		if len(got) != 40 {
			t.Fatalf("Held: %v", got)
		}
	}
}

// Who holds a lock is told by rising numbers, in whatever order they asked or were let in.
func TestHoldersRise(t *testing.T) {
	p := newPair(t)
	whos := []int{5, -3, 100, 0, math.MaxInt, 7, math.MinInt, 6, -100}
	for _, who := range whos[:4] {
		p.gets(t, together(who, a))
	}
	p.waits(t, alone(4, a))
	for _, who := range whos[4:] {
		p.waits(t, together(who, a))
	}
	wantWho(t, "Holders", p.l.Holders(a), -3, 0, 5, 100)
	p.letsIn(t, leave(4), whos[4:]...)
	wantWho(t, "Holders", p.l.Holders(a), math.MinInt, -100, -3, 0, 5, 6, 7, 100, math.MaxInt)
}

// Who waits is told in the order in which they asked, not by their numbers.
func TestQueueInOrder(t *testing.T) {
	p := newPair(t)
	p.gets(t, alone(1, a), alone(2, b))
	p.waits(t, together(9, a), alone(3, b), alone(-5, a), together(7, b), together(4, a))
	wantWho(t, "Queue", p.l.Queue(a), 9, -5, 4)
	wantWho(t, "Queue", p.l.Queue(b), 3, 7)
	wantWho(t, "Queue", p.l.Queue(c))
}

// What somebody waits for is told as they asked for it; of who waits no more, nothing.
func TestWaits(t *testing.T) {
	p := newPair(t)
	p.gets(t, together(1, a), together(4, b))
	p.waits(t, alone(2, a), together(3, a))
	for _, x := range []call{alone(2, a), together(3, a)} {
		if n, ok := p.l.Waits(x.who); !ok || n != x.need {
			t.Errorf("Waits(%d): %v, %v; want %v", x.who, n, ok, x.need)
		}
	}
	p.letsIn(t, leave(2), 3)
	for _, who := range []int{1, 2, 3, 4, 5} {
		if n, ok := p.l.Waits(who); ok || n != (api.Need{}) {
			t.Errorf("Waits(%d): %v, %v", who, n, ok)
		}
	}
}

// A lock whose fields are noughts is one as any other: who waits for it together waits for a need of noughts.
func TestWaitsForNoughts(t *testing.T) {
	p := newPair(t)
	p.gets(t, alone(1, api.Lock{}))
	p.waits(t, together(2, api.Lock{}))
	if n, ok := p.l.Waits(2); !ok || n != (api.Need{}) {
		t.Errorf("Waits: %v, %v", n, ok)
	}
	p.refuses(t, together(2, a), api.ErrLockWaits)
	p.letsIn(t, free(1, api.Lock{}), 2)
	if l := p.l.Held(2); len(l) != 1 || l[0] != (api.Need{}) {
		t.Errorf("Held: %v", l)
	}
}

// Idle is a table as soon as nobody holds anything, not ahead of it; then nobody waits.
func TestIdle(t *testing.T) {
	p := newPair(t)
	p.gets(t, together(1, a), together(2, a), alone(2, c))
	p.waits(t, alone(3, a))
	for _, x := range []struct {
		call call
		in   []int
		idle bool
	}{
		{free(1, a), nil, false},
		{free(2, a), []int{3}, false},
		{free(2, c), nil, false},
		{leave(3), nil, true},
	} {
		p.letsIn(t, x.call, x.in...)
		if p.l.Idle() != x.idle {
			t.Errorf("%+v: %v", x.call, p.l.Idle())
		}
	}
	p.gets(t, alone(1, b))
	if p.l.Idle() {
		t.Error("somebody holds b")
	}
}

// Nothing is changed by asking, however often.
func TestLookingChangesNothing(t *testing.T) {
	rnd := rand.New(rand.NewSource(3))
	for range 50 {
		p, of := newPair(t), someLocks(rnd, 4)
		for range 100 {
			p.do(t, p.m.someCall(rnd, 8, of))
			for range 3 {
				p.wantSame(t)
			}
			if !slices.Equal(p.l.Stuck(), p.l.Stuck()) {
				t.Fatal("Stuck changes")
			}
		}
	}
}
