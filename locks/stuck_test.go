package locks_test

import (
	"slices"
	"testing"

	"verger/api"
)

func node(num int) api.Lock { return api.Lock{Kind: api.LockNode, Num: uint64(num)} }

func (p pair) stuck(t *testing.T, want ...int) {
	t.Helper()
	p.wantSame(t)
	wantWho(t, "Stuck", p.l.Stuck(), want...)
}

// Rings of whatever length: each holds a lock and waits for the next one's. Once one has gone, nobody is stuck.
func TestStuckRings(t *testing.T) {
	for n := 2; n < 12; n++ {
		for out := range n {
			p := newPair(t)
			var all []int
			for who := range n {
				p.gets(t, alone(who, node(who)))
				all = append(all, who)
			}
			for who := range n - 1 {
				p.waits(t, alone(who, node(who+1)))
				p.stuck(t)
			}
			p.waits(t, alone(n-1, node(0)))
			p.stuck(t, all...)
			p.letsIn(t, leave(out), (out+n-1)%n)
			p.stuck(t)
		}
	}
}

// Who waits for somebody who does not wait is not stuck, however many stand between.
func TestStuckChain(t *testing.T) {
	p := newPair(t)
	p.gets(t, alone(0, node(0)))
	for who := 1; who < 20; who++ {
		p.gets(t, alone(who, node(who)))
		p.waits(t, alone(who, node(who-1)))
		p.stuck(t)
	}
	p.waits(t, alone(0, node(19)))
	p.stuck(t, 0, 1, 2, 3, 4, 5, 6, 7, 8, 9, 10, 11, 12, 13, 14, 15, 16, 17, 18, 19)
}

// Who only waits behind a ring is stuck, too; who waits elsewhere is not, nor who does not wait.
func TestStuckBehindARing(t *testing.T) {
	p := newPair(t)
	p.gets(t, alone(1, a), alone(2, b), alone(9, c), alone(5, node(5)))
	p.waits(t, alone(1, b), alone(2, a), together(3, a), alone(5, a), together(6, node(5)), alone(7, c), together(8, c))
	p.stuck(t, 1, 2, 3, 5, 6)
	p.letsIn(t, free(5, node(5)), 6)
	p.stuck(t, 1, 2, 3, 5)
	p.letsIn(t, leave(1), 2)
	p.stuck(t)
}

// A ring through a queue: the one who holds a lock waits for somebody who waits ahead for another one.
func TestStuckThroughAQueue(t *testing.T) {
	p := newPair(t)
	p.gets(t, together(1, a), together(2, b))
	p.waits(t, alone(2, a), together(3, a))
	p.stuck(t)
	p.gets(t, together(4, b))
	p.waits(t, alone(1, b))
	p.stuck(t, 1, 2, 3)
	p.letsIn(t, leave(2), 3)
	p.stuck(t)
}

// Who waits for some who hold a lock together is stuck, if one of them is.
func TestStuckByOneOfSome(t *testing.T) {
	p := newPair(t)
	p.gets(t, together(1, a), together(2, a), together(3, a), alone(4, b))
	p.waits(t, alone(4, a), alone(2, b))
	p.stuck(t, 2, 4)
	p.letsIn(t, leave(1))
	p.letsIn(t, leave(3))
	p.stuck(t, 2, 4)
	p.letsIn(t, free(2, a), 4)
	p.stuck(t)
}

// A ring of two who hold one lock together and both want another one alone that a third one holds.
func TestStuckTogether(t *testing.T) {
	p := newPair(t)
	p.gets(t, together(1, a), together(2, a), alone(3, b))
	p.waits(t, alone(1, b), alone(2, b))
	p.stuck(t)
	p.waits(t, together(4, b))
	p.waits(t, alone(3, a))
	p.stuck(t, 1, 2, 3, 4)
	p.letsIn(t, free(1, a))
	p.letsIn(t, free(2, a), 3)
	p.stuck(t)
}

// Two rings: by the end of one the other one does not end.
func TestStuckTwice(t *testing.T) {
	p := newPair(t)
	p.gets(t, alone(1, node(1)), alone(2, node(2)), alone(-1, node(3)), alone(-2, node(4)))
	p.waits(t, alone(1, node(2)), alone(2, node(1)), alone(-1, node(4)), alone(-2, node(3)))
	p.stuck(t, -2, -1, 1, 2)
	p.letsIn(t, leave(2), 1)
	p.stuck(t, -2, -1)
	p.letsIn(t, leave(-1), -2)
	p.stuck(t)
}

// Who is told to be stuck is never let in, whatever those do who are not; each other one is, as soon as all who are not have left.
func TestStuckIsForEver(t *testing.T) {
	p := newPair(t)
	p.gets(t, alone(1, a), alone(2, b), alone(3, c))
	p.waits(t, alone(1, b), alone(2, a), alone(4, c), together(5, c), together(6, b))
	stuck := p.l.Stuck()
	wantWho(t, "Stuck", stuck, 1, 2, 6)
	for _, who := range []int{3, 4, 5, 7} {
		for _, in := range p.l.Leave(who) {
			if slices.Contains(stuck, in) {
				t.Errorf("Leave(%d) lets in %d", who, in)
			}
		}
	}
	wantWho(t, "Stuck", p.l.Stuck(), stuck...)
	if len(p.l.Queue(c)) > 0 || len(p.l.Holders(c)) > 0 {
		t.Errorf("%v, %v", p.l.Queue(c), p.l.Holders(c))
	}
}
