package locks_test

import (
	"fmt"
	"math/rand"
	"slices"
	"testing"

	"verger/api"
	"verger/locks"
)

// The model: what the chapter says, in other words than the package's, to hold the package against. A table is the list of all that was asked for and is not over, in the order in which it was asked for; whatever is asked of it is looked for in this list.

type claim struct {
	who  int
	need api.Need
	in   bool // it is held; else it is waited for
}

type model struct{ list []claim }

const (
	errArg       = 1
	errLockHeld  = 130
	errLockWaits = 131
)

func lower(a, b api.Lock) bool {
	if a.Kind != b.Kind {
		return a.Kind < b.Kind
	}
	if a.Conn != b.Conn {
		return a.Conn < b.Conn
	}
	return a.Num < b.Num
}

// at is where the first claim stands of which that holds; -1, if there is none.
func (m *model) at(is func(c claim) bool) int { return slices.IndexFunc(m.list, is) }

func (m *model) waiting(who int) int {
	return m.at(func(c claim) bool { return c.who == who && !c.in })
}

func (m *model) holding(who int, l api.Lock) int {
	return m.at(func(c claim) bool { return c.who == who && c.in && c.need.Lock == l })
}

func (m *model) firstInRow(l api.Lock) int {
	return m.at(func(c claim) bool { return !c.in && c.need.Lock == l })
}

// could tells whether nobody who holds a lock stands against its being held so.
func (m *model) could(n api.Need) bool {
	return m.at(func(c claim) bool { return c.in && c.need.Lock == n.Lock && (c.need.Alone || n.Alone) }) < 0
}

func (m *model) ask(who int, n api.Need) (bool, api.Errno) {
	if m.waiting(who) >= 0 {
		return false, errLockWaits
	}
	if m.holding(who, n.Lock) >= 0 {
		return false, errLockHeld
	}
	got := m.firstInRow(n.Lock) < 0 && m.could(n)
	m.list = append(m.list, claim{who, n, got})
	return got, 0
}

// over ends a claim; who was let in by that.
func (m *model) over(at int) []int {
	l := m.list[at].need.Lock
	m.list = slices.Delete(m.list, at, at+1)
	var in []int
	for first := m.firstInRow(l); first >= 0 && m.could(m.list[first].need); first = m.firstInRow(l) {
		m.list[first].in = true
		in = append(in, m.list[first].who)
	}
	return in
}

func (m *model) free(who int, l api.Lock) ([]int, api.Errno) {
	at := m.holding(who, l)
	if at < 0 {
		return nil, errArg
	}
	return m.over(at), 0
}

func (m *model) leave(who int) []int {
	var in []int
	if at := m.waiting(who); at >= 0 {
		in = m.over(at)
	}
	for _, n := range m.held(who) {
		in = append(in, m.over(m.holding(who, n.Lock))...)
	}
	return in
}

func (m *model) held(who int) []api.Need {
	var l []api.Need
	for _, c := range m.list {
		if c.who == who && c.in {
			at := 0
			for at < len(l) && lower(l[at].Lock, c.need.Lock) {
				at++
			}
			l = slices.Insert(l, at, c.need)
		}
	}
	return l
}

func (m *model) waits(who int) (api.Need, bool) {
	at := m.waiting(who)
	if at < 0 {
		return api.Need{}, false
	}
	return m.list[at].need, true
}

// those are who has a claim of which that holds, in the order in which they asked.
func (m *model) those(is func(c claim) bool) []int {
	var l []int
	for _, c := range m.list {
		if is(c) {
			l = append(l, c.who)
		}
	}
	return l
}

func (m *model) queue(l api.Lock) []int {
	return m.those(func(c claim) bool { return !c.in && c.need.Lock == l })
}

func (m *model) holders(l api.Lock) []int {
	who := m.those(func(c claim) bool { return c.in && c.need.Lock == l })
	slices.Sort(who)
	return who
}

func (m *model) idle() bool {
	return m.at(func(c claim) bool { return c.in }) < 0
}

func (m *model) clone() *model { return &model{slices.Clone(m.list)} }

// stuck goes the chapter's way: somebody who does not wait leaves, as long as there is somebody.
func (m *model) stuck() []int {
	left := m.clone()
	for {
		at := left.at(func(c claim) bool { return left.waiting(c.who) < 0 })
		if at < 0 {
			who := left.those(func(c claim) bool { return !c.in })
			slices.Sort(who)
			return who
		}
		left.leave(left.list[at].who)
	}
}

// ringed goes another way: of those who wait, as many as can be of whom each waits for a lock that another one of them holds, or waits for ahead of it.
func (m *model) ringed() []int {
	set := m.those(func(c claim) bool { return !c.in })
	for {
		at := slices.IndexFunc(set, func(who int) bool { return !m.behind(who, set) })
		if at < 0 {
			slices.Sort(set)
			return set
		}
		set = slices.Delete(set, at, at+1)
	}
}

// behind tells whether somebody who waits stands behind somebody else of a set.
func (m *model) behind(who int, set []int) bool {
	mine := m.waiting(who)
	for i, c := range m.list {
		if i != mine && c.need.Lock == m.list[mine].need.Lock && (c.in || i < mine) && slices.Contains(set, c.who) {
			return true
		}
	}
	return false
}

// text is all that is known of a model, whatever the order in which holders asked.
func (m *model) text(whos []int, all []api.Lock) string {
	text := ""
	for _, who := range whos {
		n, _ := m.waits(who)
		text += fmt.Sprint(m.held(who), n, "; ")
	}
	for _, l := range all {
		text += fmt.Sprint(m.queue(l), "; ")
	}
	return text
}

// pair is a table and its model: each call is asked of both.
type pair struct {
	l *locks.Table
	m *model
}

func newPair(t *testing.T) pair {
	t.Helper()
	l := locks.New()
	if l == nil {
		t.Fatal("New: nil")
	}
	return pair{l, &model{}}
}

// call is a call by which a table may become another one.
type call struct {
	what string
	who  int
	need api.Need
}

func alone(who int, l api.Lock) call { return call{"Ask", who, api.Need{Lock: l, Alone: true}} }

func together(who int, l api.Lock) call { return call{"Ask", who, api.Need{Lock: l}} }

func free(who int, l api.Lock) call { return call{"Free", who, api.Need{Lock: l}} }

func leave(who int) call { return call{what: "Leave", who: who} }

// answer is what a call told.
type answer struct {
	got bool
	in  []int
	e   api.Errno
}

func (a answer) is(b answer) bool {
	return a.got == b.got && slices.Equal(a.in, b.in) && a.e == b.e
}

func (c call) doneBy(l *locks.Table) answer {
	var a answer
	switch c.what {
	case "Ask":
		a.got, a.e = l.Ask(c.who, c.need)
	case "Free":
		a.in, a.e = l.Free(c.who, c.need.Lock)
	case "Leave":
		a.in = l.Leave(c.who)
	}
	return a
}

func (c call) meantBy(m *model) answer {
	var a answer
	switch c.what {
	case "Ask":
		a.got, a.e = m.ask(c.who, c.need)
	case "Free":
		a.in, a.e = m.free(c.who, c.need.Lock)
	case "Leave":
		a.in = m.leave(c.who)
	}
	return a
}

// do does a call: the table has to answer as the model.
func (p pair) do(t *testing.T, c call) answer {
	t.Helper()
	was := p.m.clone()
	a, want := c.doneBy(p.l), c.meantBy(p.m)
	if !a.is(want) {
		t.Fatalf("%+v of %+v: %+v, want %+v", c, was.list, a, want)
	}
	return a
}

// wantAll does a call that has to be answered so, and looks at the whole table then.
func (p pair) wantAll(t *testing.T, c call, want answer) {
	t.Helper()
	if a := p.do(t, c); !a.is(want) {
		t.Fatalf("%+v: %+v, want %+v", c, a, want)
	}
	p.wantSame(t)
}

func (p pair) gets(t *testing.T, l ...call) {
	t.Helper()
	for _, c := range l {
		p.wantAll(t, c, answer{got: true})
	}
}

func (p pair) waits(t *testing.T, l ...call) {
	t.Helper()
	for _, c := range l {
		p.wantAll(t, c, answer{})
	}
}

// letsIn does a Free or a Leave by which just these are let in, in this order.
func (p pair) letsIn(t *testing.T, c call, in ...int) {
	t.Helper()
	p.wantAll(t, c, answer{in: in})
}

// refuses does a call that has to be refused, and to change nothing.
func (p pair) refuses(t *testing.T, c call, e api.Errno) {
	t.Helper()
	was := pair{p.l, p.m.clone()}
	p.wantAll(t, c, answer{e: e})
	was.wantSame(t)
}

// wantSame asks a table all that does not change it, of everybody and all locks that it knows, and of some that it does not.
func (p pair) wantSame(t *testing.T) {
	t.Helper()
	whos, all := []int{-1, 0, 1, 1 << 40}, []api.Lock{{}, a, b, c}
	for _, x := range p.m.list {
		whos, all = append(whos, x.who), append(all, x.need.Lock)
	}
	for _, who := range whos {
		p.wantSameOf(t, who)
	}
	for _, l := range all {
		if got, want := p.l.Queue(l), p.m.queue(l); !slices.Equal(got, want) {
			t.Fatalf("Queue(%v) of %+v: %v, want %v", l, p.m.list, got, want)
		}
		if got, want := p.l.Holders(l), p.m.holders(l); !slices.Equal(got, want) {
			t.Fatalf("Holders(%v) of %+v: %v, want %v", l, p.m.list, got, want)
		}
	}
	if got := p.l.Stuck(); !slices.Equal(got, p.m.stuck()) || !slices.Equal(got, p.m.ringed()) {
		t.Fatalf("Stuck of %+v: %v, want %v; in a ring: %v", p.m.list, got, p.m.stuck(), p.m.ringed())
	}
	if got, want := p.l.Idle(), p.m.idle(); got != want {
		t.Fatalf("Idle of %+v: %v", p.m.list, got)
	}
}

func (p pair) wantSameOf(t *testing.T, who int) {
	t.Helper()
	if got, want := p.l.Held(who), p.m.held(who); !slices.Equal(got, want) {
		t.Fatalf("Held(%d) of %+v: %v, want %v", who, p.m.list, got, want)
	}
	n, ok := p.l.Waits(who)
	if want, is := p.m.waits(who); n != want || ok != is {
		t.Fatalf("Waits(%d) of %+v: %v, %v; want %v, %v", who, p.m.list, n, ok, want, is)
	}
}

// Three locks, rising: a fid's, the tree's, a node's.
var (
	a = api.Lock{Kind: api.LockFid, Conn: 3, Num: 9}
	b = api.Lock{Kind: api.LockTree}
	c = api.Lock{Kind: api.LockNode, Num: 2}
)

// oneOf is one of a list.
func oneOf[V any](rnd *rand.Rand, l ...V) V { return l[rnd.Intn(len(l))] }

// someLocks are a few locks that lie close to one another, in whatever order.
func someLocks(rnd *rand.Rand, n int) []api.Lock {
	l := make([]api.Lock, n)
	for i := range l {
		l[i] = api.Lock{Kind: api.LockKind(rnd.Intn(4)), Conn: rnd.Intn(3) - 1, Num: uint64(rnd.Intn(4))}
	}
	return l
}

// someCall is a call of one of so many people, of one of these locks: seldom a Leave, a Free most often of what is held.
func (m *model) someCall(rnd *rand.Rand, people int, of []api.Lock) call {
	x := call{oneOf(rnd, "Ask", "Ask", "Ask", "Free", "Free"), rnd.Intn(people) - 1, api.Need{Lock: oneOf(rnd, of...), Alone: rnd.Intn(2) > 0}}
	if x.what == "Free" && len(m.list) > 0 && rnd.Intn(4) > 0 {
		held := oneOf(rnd, m.list...)
		x.who, x.need = held.who, held.need
	}
	if rnd.Intn(12) == 0 {
		x.what = "Leave"
	}
	return x
}
