package locks_test

import (
	"math"
	"testing"

	"verger/api"
)

// Who asks first has it, however they ask.
func TestAskFirst(t *testing.T) {
	for _, n := range []api.Need{{Lock: a}, {Lock: a, Alone: true}} {
		p := newPair(t)
		p.gets(t, call{"Ask", 1, n})
		if l := p.l.Held(1); len(l) != 1 || l[0] != n {
			t.Errorf("Held: %v, want %v", l, n)
		}
		if n, ok := p.l.Waits(1); ok || n != (api.Need{}) {
			t.Errorf("Waits: %v, %v", n, ok)
		}
	}
}

// Beside who holds it together others hold it together; nobody else holds a lock that somebody holds.
func TestAskSecond(t *testing.T) {
	for _, x := range []struct {
		first, second func(int, api.Lock) call
		got           bool
	}{
		{together, together, true},
		{together, alone, false},
		{alone, together, false},
		{alone, alone, false},
	} {
		p := newPair(t)
		p.gets(t, x.first(1, a))
		p.wantAll(t, x.second(2, a), answer{got: x.got})
		if n, ok := p.l.Waits(2); ok == x.got || ok && n != x.second(2, a).need {
			t.Errorf("Waits: %v, %v", n, ok)
		}
	}
}

// Any number hold a lock together.
func TestAskManyTogether(t *testing.T) {
	p := newPair(t)
	for who := range 40 {
		p.gets(t, together(who, a))
	}
	p.waits(t, alone(40, a))
	for who := range 39 {
		p.letsIn(t, free(who, a))
	}
	p.letsIn(t, free(39, a), 40)
}

// Nobody goes past those who wait: who asks together waits behind one who waits to have it alone, though those who hold it do so together.
func TestAskBehind(t *testing.T) {
	p := newPair(t)
	p.gets(t, together(1, a))
	p.waits(t, alone(2, a), together(3, a), together(4, a), alone(5, a), together(6, a))
	wantWho(t, "Queue", p.l.Queue(a), 2, 3, 4, 5, 6)
	p.letsIn(t, free(1, a), 2)
	p.waits(t, together(1, a))
	p.letsIn(t, free(2, a), 3, 4)
	p.waits(t, together(2, a))
	p.letsIn(t, free(4, a))
	p.letsIn(t, free(3, a), 5)
	p.letsIn(t, free(5, a), 6, 1, 2)
}

// When all who waited have gone, nobody is waited for any more.
func TestAskBehindNobody(t *testing.T) {
	p := newPair(t)
	p.gets(t, together(1, a))
	p.waits(t, alone(2, a))
	p.letsIn(t, leave(2))
	p.gets(t, together(3, a))
	p.waits(t, alone(2, a))
	p.letsIn(t, leave(1))
	p.letsIn(t, leave(3), 2)
}

// Nobody holds a lock twice, and none is made more, or less, by asking again.
func TestAskHeld(t *testing.T) {
	for _, first := range []func(int, api.Lock) call{alone, together} {
		for _, again := range []func(int, api.Lock) call{alone, together} {
			p := newPair(t)
			p.gets(t, first(1, a))
			p.refuses(t, again(1, a), api.ErrLockHeld)
			p.wantAll(t, together(2, a), answer{got: !first(1, a).need.Alone})
			p.refuses(t, again(1, a), api.ErrLockHeld)
			p.waits(t, alone(3, a))
			p.refuses(t, again(1, a), api.ErrLockHeld)
			p.gets(t, first(1, b))
			p.letsIn(t, leave(2))
			p.letsIn(t, free(1, a), 3)
			p.waits(t, again(1, a))
		}
	}
}

// Who waits waits for one lock: that is said of whatever lock they ask for, also of one that they hold, or wait for, or that is free.
func TestAskWaits(t *testing.T) {
	p := newPair(t)
	p.gets(t, alone(1, a), alone(2, b), together(2, c))
	p.waits(t, together(2, a))
	for _, l := range []api.Lock{a, b, c, {}} {
		p.refuses(t, alone(2, l), api.ErrLockWaits)
		p.refuses(t, together(2, l), api.ErrLockWaits)
	}
	p.letsIn(t, free(1, a), 2)
	p.refuses(t, together(2, a), api.ErrLockHeld)
	p.gets(t, alone(2, api.Lock{}))
}

// Who has left may ask as if they had never been there.
func TestAskAgain(t *testing.T) {
	p := newPair(t)
	for range 3 {
		p.gets(t, alone(1, a), together(1, b))
		p.waits(t, alone(2, a))
		p.letsIn(t, leave(2))
		p.letsIn(t, leave(1))
	}
}

// Locks are the same just if all of their fields are: else they stand in nobody's way.
func TestAskOthers(t *testing.T) {
	p := newPair(t)
	for who, l := range edges() {
		p.gets(t, alone(who, l))
	}
	for who, l := range edges() {
		p.waits(t, alone(-1-who, l))
	}
	for who, l := range edges() {
		p.letsIn(t, free(who, l), -1-who)
	}
}

// Who holds or waits may be any number.
func TestAskAnybody(t *testing.T) {
	whos := []int{math.MinInt, math.MinInt + 1, -1, 0, 1, math.MaxInt - 1, math.MaxInt}
	p := newPair(t)
	p.gets(t, alone(5, a))
	for _, who := range whos {
		p.waits(t, together(who, a))
	}
	wantWho(t, "Stuck", p.l.Stuck())
	p.letsIn(t, free(5, a), whos...)
	wantWho(t, "Holders", p.l.Holders(a), whos...)
	p.waits(t, alone(5, a))
	for _, who := range whos[1:] {
		p.letsIn(t, leave(who))
	}
	p.letsIn(t, leave(math.MinInt), 5)
}
