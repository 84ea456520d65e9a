package locks_test

import (
	"math/rand"
	"slices"
	"testing"

	"verger/api"
	"verger/locks"
)

// T4 (It ends), as far as locks alone go: many rows of steps on one table. A row asks for the locks of its fids, for the tree's, for those of the nodes that it looked at, each rising; it may have to begin again from the tree's on, and asks for the tree alone when that has come about three times. Here chance says what it sees.

var tree = api.Lock{Kind: api.LockTree}

// mostSteps are those of a row of two fids, of three tries that see four nodes each and begin again, of one alone with the tree, and of three pieces.
const mostSteps = 2 + 3*(1+1+4+1) + 1 + 1 + 3 + 1

type row struct {
	id        int
	fids      []api.Need
	asked     int // of its fids
	try       int
	tree      bool // it was asked for in this try
	looked    bool
	foot      []api.Need
	nodes     int // of its foot, for how many it has asked
	decided   bool
	pieces    int
	cancelled bool
	steps     int
}

// someNeeds are needs of a few of so many locks, rising.
func someNeeds(rnd *rand.Rand, of func(num int) api.Lock, from, most int) []api.Need {
	var l []api.Need
	for num := range from {
		if len(l) < most && rnd.Intn(2) > 0 {
			l = append(l, api.Need{Lock: of(num), Alone: rnd.Intn(2) > 0})
		}
	}
	return l
}

func newRow(rnd *rand.Rand, id int) *row {
	conn := 1 + rnd.Intn(2)
	fid := func(num int) api.Lock { return api.Lock{Kind: api.LockFid, Conn: conn, Num: uint64(num)} }
	return &row{id: id, try: 1, fids: someNeeds(rnd, fid, 3, 2), pieces: rnd.Intn(4)}
}

// floor is a table, and the rows that go their steps on it.
type floor struct {
	l    *locks.Table
	rnd  *rand.Rand
	rows []*row
}

func (f *floor) waits(r *row) bool {
	_, waits := f.l.Waits(r.id)
	return waits
}

func (f *floor) ask(t *testing.T, r *row, n api.Need) {
	t.Helper()
	if held := f.l.Held(r.id); len(held) > 0 && !lower(held[len(held)-1].Lock, n.Lock) {
		t.Fatalf("%d holds %v and asks for %v", r.id, held, n)
	}
	if got, e := f.l.Ask(r.id, n); e != api.OK || got == f.waits(r) {
		t.Fatalf("Ask(%d, %v): %v, %d; it waits: %v", r.id, n, got, e, f.waits(r))
	}
}

// step lets a row go one step: it tells whether the row is over.
func (f *floor) step(t *testing.T, r *row) bool {
	t.Helper()
	r.steps++
	switch {
	case r.cancelled && !r.decided:
		f.leave(t, r)
		return true
	case r.asked < len(r.fids):
		r.asked++
		f.ask(t, r, r.fids[r.asked-1])
	case !r.tree:
		r.tree = true
		f.ask(t, r, api.Need{Lock: tree, Alone: r.try > api.MaxTries})
	case r.try <= api.MaxTries && !r.looked:
		r.looked, r.foot = true, someNeeds(f.rnd, node, 6, 4)
	case r.nodes < len(r.foot):
		r.nodes++
		f.ask(t, r, r.foot[r.nodes-1])
	case !r.decided && r.try <= api.MaxTries && f.rnd.Intn(2) > 0:
		f.again(t, r)
	case !r.decided:
		r.decided = true
		f.wantHeld(t, r)
	case r.pieces > 0:
		r.pieces--
		f.wantHeld(t, r)
	default:
		f.leave(t, r)
		return true
	}
	return false
}

// again lets go of the tree and of the nodes: the row goes on from there.
func (f *floor) again(t *testing.T, r *row) {
	t.Helper()
	for _, n := range append([]api.Need{{Lock: tree}}, r.foot...) {
		in, e := f.l.Free(r.id, n.Lock)
		if e != api.OK {
			t.Fatalf("Free(%d, %v): %d", r.id, n.Lock, e)
		}
		f.wantGoing(t, in)
	}
	r.try++
	r.tree, r.looked, r.foot, r.nodes = false, false, nil, 0
	if got := f.l.Held(r.id); !slices.Equal(got, r.fids) {
		t.Fatalf("%d holds %v", r.id, got)
	}
}

func (f *floor) leave(t *testing.T, r *row) {
	t.Helper()
	f.wantGoing(t, f.l.Leave(r.id))
	if len(f.l.Held(r.id)) > 0 || f.waits(r) {
		t.Fatalf("%d has left", r.id)
	}
}

// wantGoing: of those who were let in none waits any more.
func (f *floor) wantGoing(t *testing.T, in []int) {
	t.Helper()
	for _, who := range in {
		if _, waits := f.l.Waits(who); waits {
			t.Fatalf("%d was let in, and waits", who)
		}
	}
}

// wantHeld: a row that decides, or has decided, holds all that it asked for; nobody else holds what it holds alone, nor any node while it has the tree alone.
func (f *floor) wantHeld(t *testing.T, r *row) {
	t.Helper()
	last := r.try > api.MaxTries
	want := append(append(slices.Clone(r.fids), api.Need{Lock: tree, Alone: last}), r.foot...)
	if got := f.l.Held(r.id); !slices.Equal(got, want) {
		t.Fatalf("%d holds %v, want %v", r.id, got, want)
	}
	for _, n := range want {
		if l := f.l.Holders(n.Lock); !slices.Contains(l, r.id) || n.Alone && len(l) > 1 {
			t.Fatalf("%v is held by %v", n, l)
		}
	}
	for num := range 6 {
		if l := f.l.Holders(node(num)); last && len(l) > 0 {
			t.Fatalf("%d has the tree alone, and %v hold %v", r.id, l, node(num))
		}
	}
}

// going are the places of the rows that can go a step.
func (f *floor) going() []int {
	var l []int
	for i, r := range f.rows {
		if !f.waits(r) {
			l = append(l, i)
		}
	}
	return l
}

// run lets so many rows go to their ends, never more than some at one time; pick says whose turn it is. How many steps that took.
func (f *floor) run(t *testing.T, rows, most int, pick func(n int) int) (steps, waited int) {
	for id := 0; id < rows || len(f.rows) > 0; {
		if id < rows && len(f.rows) < most {
			id++
			f.rows = append(f.rows, newRow(f.rnd, id))
		}
		can := f.going()
		if len(can) == 0 || len(f.l.Stuck()) > 0 {
			t.Fatalf("of %d rows nobody can go, or somebody sticks: %v", len(f.rows), f.l.Stuck())
		}
		waited += len(f.rows) - len(can)
		at := can[pick(len(can))]
		r := f.rows[at]
		r.cancelled = r.cancelled || f.rnd.Intn(60) == 0
		steps++
		if f.step(t, r) {
			if r.steps > mostSteps {
				t.Fatalf("a row went %d steps", r.steps)
			}
			f.rows = slices.Delete(f.rows, at, at+1)
		}
	}
	if !f.l.Idle() {
		t.Fatal("all rows are over, and somebody holds a lock")
	}
	return steps, waited
}

// Whatever is picked, as long as a row is not over one can go a step; each comes to its end, and then nothing is held.
func TestRowsEnd(t *testing.T) {
	rnd := rand.New(rand.NewSource(12))
	turn, waited := 0, 0
	for _, x := range []struct {
		name string
		pick func(n int) int
	}{
		{"whoever", func(n int) int { return rnd.Intn(n) }},
		{"the first", func(int) int { return 0 }},
		{"the last", func(n int) int { return n - 1 }},
		{"by turns", func(n int) int { turn++; return turn % n }},
	} {
		steps := 0
		for range 20 {
			f := &floor{l: locks.New(), rnd: rnd}
			s, w := f.run(t, 100, 2+rnd.Intn(15), x.pick)
			steps, waited = steps+s, waited+w
		}
		if steps < 20*100*5 {
			t.Errorf("%s: %d steps", x.name, steps)
		}
	}
	if waited < 10000 {
		t.Errorf("rows waited %d times", waited)
	}
}

// Who wants the tree alone has it as soon as those have let go who asked ahead, though others go on asking for it together.
func TestTreeAlone(t *testing.T) {
	p := newPair(t)
	for who := range 5 {
		p.gets(t, together(who, tree))
	}
	p.waits(t, alone(100, tree))
	for who := 5; who < 30; who++ {
		p.waits(t, together(who, tree))
	}
	for who := range 4 {
		p.letsIn(t, leave(who))
		p.waits(t, together(who, tree))
	}
	p.letsIn(t, leave(4), 100)
	wantWho(t, "Holders", p.l.Holders(tree), 100)
	in := p.do(t, leave(100)).in
	if len(in) != 29 || in[0] != 5 || in[28] != 3 {
		t.Errorf("Leave: %v", in)
	}
}
