package locks_test

import (
	"math"
	"math/rand"
	"slices"
	"testing"

	"verger/api"
	"verger/locks"
)

// edges are locks whose fields are the least and the greatest numbers, and some between: rising.
func edges() []api.Lock {
	var l []api.Lock
	for _, kind := range []api.LockKind{0, api.LockFid, api.LockTree, api.LockNode, 255} {
		for _, conn := range []int{math.MinInt, -1, 0, 1, 16, math.MaxInt} {
			for _, num := range []uint64{0, 1, math.MaxUint32, math.MaxInt64, math.MaxInt64 + 1, math.MaxUint64} {
				l = append(l, api.Lock{Kind: kind, Conn: conn, Num: num})
			}
		}
	}
	return l
}

// Of a list of rising locks each is lower than all behind it, higher than all ahead of it, and the same as itself.
func TestCompareEdges(t *testing.T) {
	l := edges()
	for i, x := range l {
		for j, y := range l {
			want := 0
			if i < j {
				want = -1
			} else if i > j {
				want = 1
			}
			if got := locks.Compare(x, y); got != want {
				t.Fatalf("Compare(%v, %v): %d, want %d", x, y, got, want)
			}
		}
	}
}

// The kind says more than the connection, and that more than the number.
func TestComparePlaces(t *testing.T) {
	for _, l := range []struct{ low, high api.Lock }{
		{api.Lock{Kind: 1, Conn: 9, Num: 9}, api.Lock{Kind: 2, Conn: 1, Num: 1}},
		{api.Lock{Kind: 1, Conn: 9, Num: 1}, api.Lock{Kind: 2, Conn: 1, Num: 9}},
		{api.Lock{Kind: 1, Conn: 1, Num: 9}, api.Lock{Kind: 2, Conn: 9, Num: 1}},
		{api.Lock{Kind: 1, Conn: 1, Num: 9}, api.Lock{Kind: 1, Conn: 2, Num: 1}},
		{api.Lock{Kind: 1, Conn: 1, Num: 1}, api.Lock{Kind: 1, Conn: 1, Num: 2}},
		{api.Lock{Kind: api.LockFid, Conn: 16, Num: 99}, api.Lock{Kind: api.LockTree}},
		{api.Lock{Kind: api.LockTree}, api.Lock{Kind: api.LockNode, Num: 1}},
		{api.Lock{Kind: 3, Conn: -1, Num: 5}, api.Lock{Kind: 3, Conn: 0, Num: 5}},
	} {
		if locks.Compare(l.low, l.high) != -1 || locks.Compare(l.high, l.low) != 1 {
			t.Errorf("%v and %v: %d, %d", l.low, l.high, locks.Compare(l.low, l.high), locks.Compare(l.high, l.low))
		}
	}
}

// Of any locks: sorted by Compare they rise, and two are the same just if all fields are.
func TestCompareSorts(t *testing.T) {
	rnd := rand.New(rand.NewSource(1))
	for range 300 {
		l := someLocks(rnd, 20)
		slices.SortFunc(l, locks.Compare)
		for i := range l[1:] {
			if lower(l[i+1], l[i]) || (locks.Compare(l[i], l[i+1]) == 0) != (l[i] == l[i+1]) {
				t.Fatalf("%v ahead of %v", l[i], l[i+1])
			}
		}
	}
}
