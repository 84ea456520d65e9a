package locks_test

import (
	"slices"
	"testing"

	"verger/api"
	"verger/locks"
)

// The chapter's examples, word by word.

func wantWho(t *testing.T, what string, got []int, want ...int) {
	t.Helper()
	if !slices.Equal(got, want) {
		t.Errorf("%s: %v, want %v", what, got, want)
	}
}

func TestExample1(t *testing.T) {
	p := newPair(t)
	p.gets(t, together(1, a), together(2, a))
	p.waits(t, alone(3, a), together(4, a))
	wantWho(t, "Queue", p.l.Queue(a), 3, 4)
	p.letsIn(t, free(1, a))
	p.letsIn(t, free(2, a), 3)
	p.letsIn(t, free(3, a), 4)
}

func TestExample2(t *testing.T) {
	p := newPair(t)
	p.gets(t, alone(1, a))
	p.waits(t, together(2, a), together(3, a), alone(4, a), together(5, a))
	p.letsIn(t, free(1, a), 2, 3)
	p.letsIn(t, leave(2))
	p.letsIn(t, leave(4), 5)
}

func TestExample3(t *testing.T) {
	p := newPair(t)
	p.gets(t, alone(1, a), alone(2, b))
	p.waits(t, alone(1, b), alone(2, a), alone(3, b))
	wantWho(t, "Stuck", p.l.Stuck(), 1, 2, 3)
	p.letsIn(t, leave(2), 1)
	wantWho(t, "Stuck", p.l.Stuck())
}

func TestExample4(t *testing.T) {
	p := newPair(t)
	p.gets(t, alone(1, a))
	p.refuses(t, alone(1, a), api.ErrLockHeld)
	p.gets(t, alone(2, b))
	p.waits(t, alone(1, b))
	p.refuses(t, alone(1, c), api.ErrLockWaits)
	p.refuses(t, free(1, b), api.ErrArg)
}

// The chapter's errors have these numbers.
func TestErrors(t *testing.T) {
	if api.ErrArg != errArg || api.ErrLockHeld != errLockHeld || api.ErrLockWaits != errLockWaits {
		t.Errorf("%d, %d, %d", api.ErrArg, api.ErrLockHeld, api.ErrLockWaits)
	}
}

// a, b and c are three locks, rising.
func TestExamplesLocks(t *testing.T) {
	if locks.Compare(a, b) != -1 || locks.Compare(b, c) != -1 || locks.Compare(a, c) != -1 {
		t.Error("a, b, c do not rise")
	}
}
