package locks_test

import (
	"testing"

	"verger/api"
)

// Who does not hold a lock can't free it: nobody does, others do, they wait for it, they hold others.
func TestFreeNotHeld(t *testing.T) {
	p := newPair(t)
	p.refuses(t, free(1, a), api.ErrArg)
	p.gets(t, alone(1, a), together(2, b), together(3, b))
	p.waits(t, together(2, a))
	p.refuses(t, free(2, a), api.ErrArg)
	p.refuses(t, free(3, a), api.ErrArg)
	p.refuses(t, free(1, b), api.ErrArg)
	p.refuses(t, free(1, c), api.ErrArg)
	p.refuses(t, free(4, a), api.ErrArg)
	p.letsIn(t, free(1, a), 2)
	p.refuses(t, free(1, a), api.ErrArg)
}

// Who waits may free what they hold, and waits on.
func TestFreeWhileWaiting(t *testing.T) {
	p := newPair(t)
	p.gets(t, alone(1, a), alone(2, b))
	p.waits(t, alone(2, a), together(3, b))
	p.letsIn(t, free(2, b), 3)
	p.waits(t, alone(1, b))
	p.letsIn(t, free(1, a), 2)
}

// As long as one of those who hold it together is left, one who waits to have it alone waits on.
func TestFreeOneOfSome(t *testing.T) {
	p := newPair(t)
	p.gets(t, together(1, a), together(2, a), together(3, a))
	p.waits(t, alone(4, a))
	p.letsIn(t, free(2, a))
	p.letsIn(t, free(1, a))
	p.letsIn(t, free(3, a), 4)
}

// Those at the front who are together are let in at once; up to the first one who is alone.
func TestFreeLetsInSome(t *testing.T) {
	p := newPair(t)
	p.gets(t, alone(1, a))
	p.waits(t, together(9, a), together(3, a), together(7, a), alone(2, a), together(5, a), together(4, a), alone(8, a), alone(6, a))
	p.letsIn(t, free(1, a), 9, 3, 7)
	p.letsIn(t, free(3, a))
	p.letsIn(t, free(9, a))
	p.letsIn(t, free(7, a), 2)
	p.letsIn(t, free(2, a), 5, 4)
	p.letsIn(t, leave(4))
	p.letsIn(t, leave(5), 8)
	p.letsIn(t, free(8, a), 6)
	p.letsIn(t, free(6, a))
}

// One who was let in holds the lock as they asked for it.
func TestFreeLetsInSo(t *testing.T) {
	p := newPair(t)
	p.gets(t, alone(1, a))
	p.waits(t, alone(2, a), together(3, a))
	p.letsIn(t, free(1, a), 2)
	p.waits(t, together(4, a))
	p.letsIn(t, free(2, a), 3, 4)
	p.gets(t, together(5, a))
	p.waits(t, alone(6, a))
	for _, who := range []int{3, 4, 5} {
		if l := p.l.Held(who); len(l) != 1 || l[0] != (api.Need{Lock: a}) {
			t.Errorf("Held(%d): %v", who, l)
		}
	}
}

// Freed is this lock alone: what else they hold they hold.
func TestFreeThatAlone(t *testing.T) {
	p := newPair(t)
	p.gets(t, alone(1, a), together(1, b), alone(1, c))
	p.waits(t, alone(2, a), alone(3, b), alone(4, c))
	p.letsIn(t, free(1, b), 3)
	p.letsIn(t, free(1, c), 4)
	p.letsIn(t, free(1, a), 2)
	p.letsIn(t, free(4, c))
}

// Somebody who neither holds nor waits may leave: nobody is let in.
func TestLeaveNothing(t *testing.T) {
	p := newPair(t)
	p.letsIn(t, leave(1))
	p.gets(t, alone(1, a))
	p.waits(t, alone(2, a))
	p.letsIn(t, leave(3))
	p.letsIn(t, leave(1), 2)
	p.letsIn(t, leave(1))
}

// All locks are let go of, the lowest first, in whatever order they were asked for; within each those who wait are let in in the order in which they asked.
func TestLeaveRising(t *testing.T) {
	p := newPair(t)
	d := api.Lock{Kind: api.LockNode, Num: 10}
	p.gets(t, alone(1, c), together(1, a), alone(1, d), together(1, b))
	p.waits(t, together(9, d), together(8, d), together(7, c), alone(6, c), alone(5, b), together(4, b), alone(3, a))
	p.letsIn(t, leave(1), 3, 5, 7, 9, 8)
	wantWho(t, "Queue", p.l.Queue(b), 4)
	wantWho(t, "Queue", p.l.Queue(c), 6)
}

// Who leaves a queue, at its front, lets in those behind who could have the lock beside those who hold it.
func TestLeaveFront(t *testing.T) {
	p := newPair(t)
	p.gets(t, together(1, a))
	p.waits(t, alone(2, a), together(3, a), together(4, a), alone(5, a), together(6, a))
	p.letsIn(t, leave(2), 3, 4)
	p.letsIn(t, leave(5), 6)
	p.letsIn(t, leave(1))
}

// Is the lock held alone, or the next one alone, nobody is let in by that.
func TestLeaveFrontOfOthers(t *testing.T) {
	p := newPair(t)
	p.gets(t, alone(1, a))
	p.waits(t, alone(2, a), together(3, a))
	p.letsIn(t, leave(2))
	p.letsIn(t, free(1, a), 3)
	p.waits(t, alone(4, a), alone(5, a), together(6, a))
	p.letsIn(t, leave(4))
	wantWho(t, "Queue", p.l.Queue(a), 5, 6)
	p.letsIn(t, leave(3), 5)
}

// Who leaves a queue further behind lets nobody in; the others keep their places.
func TestLeaveMiddle(t *testing.T) {
	for _, who := range []int{3, 4, 5, 6} {
		p := newPair(t)
		p.gets(t, together(1, a))
		p.waits(t, alone(2, a), together(3, a), alone(4, a), together(5, a), together(6, a))
		p.letsIn(t, leave(who))
		if l := p.l.Queue(a); len(l) != 4 || l[0] != 2 {
			t.Errorf("Queue: %v", l)
		}
		p.waits(t, together(who, a))
		p.letsIn(t, free(1, a), 2)
		for len(p.l.Holders(a)) > 0 {
			p.do(t, leave(p.l.Holders(a)[0]))
			p.wantSame(t)
		}
	}
}

// Who waits and holds is out of the queue first; then they let go of what they hold, whichever of these locks is the lower one.
func TestLeaveBoth(t *testing.T) {
	for _, x := range []struct{ low, high api.Lock }{{a, b}, {b, a}, {a, c}, {c, b}} {
		p := newPair(t)
		p.gets(t, together(1, x.high), alone(2, x.low))
		p.waits(t, alone(2, x.high), together(3, x.high), together(4, x.high), alone(5, x.high), alone(6, x.low), together(7, x.low))
		p.letsIn(t, leave(2), 3, 4, 6)
		wantWho(t, "Queue", p.l.Queue(x.high), 5)
		wantWho(t, "Queue", p.l.Queue(x.low), 7)
		p.letsIn(t, leave(6), 7)
	}
}

// However many are let in by what a queue's front and the locks let go of come to: those who wait on stay who they were.
func TestLeaveKeepsQueues(t *testing.T) {
	p := newPair(t)
	p.gets(t, together(1, b), alone(2, a), alone(2, c))
	p.waits(t, alone(2, b), together(3, b), alone(4, b), alone(5, b), together(6, b))
	p.waits(t, together(11, a), together(12, a), alone(13, a), alone(14, a), alone(21, c), together(22, c), together(23, c))
	p.letsIn(t, leave(2), 3, 11, 12, 21)
	wantWho(t, "Queue", p.l.Queue(a), 13, 14)
	wantWho(t, "Queue", p.l.Queue(b), 4, 5, 6)
	wantWho(t, "Queue", p.l.Queue(c), 22, 23)
	p.waits(t, alone(24, c), together(15, a))
	p.letsIn(t, leave(21), 22, 23)
	p.letsIn(t, leave(11))
	p.letsIn(t, leave(12), 13)
	p.letsIn(t, leave(13), 14)
	p.letsIn(t, leave(14), 15)
	p.letsIn(t, leave(1))
	p.letsIn(t, leave(3), 4)
	p.letsIn(t, leave(4), 5)
	p.letsIn(t, leave(5), 6)
}

// One who was let in by a Leave does not leave by it: they hold what they held, and this.
func TestLeaveAlone(t *testing.T) {
	p := newPair(t)
	p.gets(t, alone(1, a), alone(2, b))
	p.waits(t, alone(2, a), alone(3, b))
	p.letsIn(t, leave(1), 2)
	if l := p.l.Held(2); len(l) != 2 || l[0].Lock != a || l[1].Lock != b {
		t.Errorf("Held: %v", l)
	}
	p.letsIn(t, leave(2), 3)
}
