package tags_test

import (
	"math/rand"
	"slices"
	"strings"
	"testing"

	"verger/api"
	"verger/tags"
)

// The chapter's section "What holds", what T2 says of tags, and that a table does as the model: for calls of all kinds, in whatever order.

// A table tells what the model tells; each answer is told often enough to have been held to it.
func TestLikeTheModel(t *testing.T) {
	rnd := rand.New(rand.NewSource(1))
	type kind struct {
		what string
		some bool // an id that is not 0, true, or ids
		e    api.Errno
	}
	told := map[kind]int{}
	for range 400 {
		p, few := newPair(t, oneOf(rnd, 1, 2, 3, 5, 8, 64)), 1+rnd.Intn(8)
		for range 200 {
			x := p.m.someCall(rnd, few)
			r := p.do(t, x)
			told[kind{x.what, r.id != 0 || r.ok || len(r.ids) > 0, r.e}]++
			if rnd.Intn(4) == 0 {
				p.wantSame(t)
			}
		}
		p.wantSame(t)
	}
	for _, k := range []kind{
		{"Begin", false, api.OK}, {"Begin", false, api.ErrArg}, {"Begin", false, api.ErrTag}, {"Begin", false, api.ErrTagUsed}, {"Begin", false, api.ErrTagFull},
		{"Flush", false, api.OK}, {"Flush", true, api.OK}, {"Flush", false, api.ErrArg}, {"Flush", false, api.ErrTag}, {"Flush", false, api.ErrTagUsed}, {"Flush", false, api.ErrTagFull},
		{"Decide", false, api.OK}, {"Decide", true, api.OK}, {"Reply", false, api.OK}, {"Reply", false, api.ErrTagNone},
		{"Say", false, api.OK}, {"Next", false, api.OK}, {"Next", true, api.OK}, {"Reset", false, api.OK}, {"Reset", true, api.OK},
	} {
		if told[k] < 50 {
			t.Errorf("%+v: told %d times", k, told[k])
		}
	}
}

// Of what a flush may find under the tag that it names, each (0: nothing) is met often enough by the calls that a table is held to.
func TestEachFlushIsMet(t *testing.T) {
	rnd := rand.New(rand.NewSource(2))
	met := map[api.TagState]int{}
	for range 200 {
		p := newPair(t, 8)
		for range 200 {
			x := p.m.someCall(rnd, 7)
			if r := p.do(t, x); x.what == "Flush" && r.e == api.OK {
				met[p.m.list[len(p.m.list)-1].foundIn]++
			}
		}
	}
	for state := range api.TagFlushed + 1 {
		if met[state] < 50 {
			t.Errorf("the state %d was met %d times", state, met[state])
		}
	}
}

// eachCall are all calls that may make something of a table, with these tags; ids are given out one by one, and a row has so many of the caller's at most.
func (m *model) eachCall(few uint16, says int) []call {
	l := []call{next(), reset()}
	id := m.greatest() + 1
	for tag := range few {
		l = append(l, begin(tag, id))
		for old := range few + 1 {
			l = append(l, flush(tag, old, id))
		}
	}
	for _, r := range m.rows() {
		l = append(l, decide(r.Serial), reply(r.Serial, rclunk(0)))
	}
	apart := 0
	for _, x := range m.row {
		if x.whose < 0 {
			apart++
		}
	}
	if apart < says {
		l = append(l, say(max(1, id-1), rclunk(1)))
	}
	return l
}

// A few tags, in each state into which calls can bring them: there each call is answered as the model says, and does the same.
func TestEachState(t *testing.T) {
	for _, x := range []struct {
		most   int
		few    uint16
		says   int
		states int
	}{{1, 2, 3, 50}, {2, 3, 1, 300}, {3, 2, 2, 300}, {3, 3, 0, 1000}} {
		ways, seen := [][]call{nil}, map[string]bool{}
		for len(ways) > 0 {
			way := ways[0]
			ways = ways[1:]
			at := &model{most: x.most}
			for _, c := range way {
				c.meantBy(at)
			}
			for _, c := range at.eachCall(x.few, x.says) {
				p := newPair(t, x.most)
				for _, ahead := range way {
					p.do(t, ahead)
				}
				p.do(t, c)
				if text := p.m.text(); !seen[text] {
					seen[text] = true
					p.wantSame(t)
					ways = append(ways, append(slices.Clone(way), c))
				}
			}
		}
		if len(seen) < x.states {
			t.Errorf("%d tags of %d, %d says: %d states", x.most, x.few, x.says, len(seen))
		}
	}
}

// seen is what a watcher knows of a request or a flush, who sees the calls and their answers alone.
type seen struct {
	tag       uint16
	flush     bool
	named     int // a flush: the id of what had the tag that it names
	cancelled bool
	decided   bool
	replied   bool
	written   bool
	gone      bool // by a reset
}

// watcher sees what is done to a table.
type watcher struct {
	l      *tags.Table
	all    map[int]*seen
	ids    []int // rising
	holder map[uint16]int
}

func newWatcher(t *testing.T, most int) *watcher {
	t.Helper()
	return &watcher{newPair(t, most).l, map[int]*seen{}, nil, map[uint16]int{}}
}

// began notes what began. (Two never have one tag.)
func (w *watcher) began(t *testing.T, c call) {
	t.Helper()
	if other, taken := w.holder[c.tag]; taken {
		t.Fatalf("%d has the tag %d, and %d gets it", other, c.tag, c.id)
	}
	x := &seen{tag: c.tag, flush: c.what == "Flush"}
	if x.flush {
		x.named = w.holder[c.old]
	}
	w.holder[c.tag] = c.id
	w.all[c.id], w.ids = x, append(w.ids, c.id)
}

// after notes what a call told; it must be what may be told.
func (w *watcher) after(t *testing.T, c call, r answer) {
	t.Helper()
	switch {
	case (c.what == "Begin" || c.what == "Flush") && r.e == api.OK:
		w.began(t, c)
		if r.id != 0 {
			w.wasCancelled(t, r.id, w.all[c.id].named)
		}
	case c.what == "Decide" && r.ok:
		x := w.all[c.id]
		if x.flush || x.cancelled || x.decided || x.gone {
			t.Fatalf("%d is decided: %+v", c.id, x)
		}
		x.decided = true
	case c.what == "Reply" && r.e == api.OK:
		x := w.all[c.id]
		if !x.decided || x.replied || x.gone {
			t.Fatalf("%d is answered: %+v", c.id, x)
		}
		x.replied = true
	case c.what == "Next" && r.ok && r.m.Kind != api.Rerror:
		w.wasWritten(t, r.id, r.m)
	case c.what == "Reset":
		w.wasReset(t, r.ids)
	}
}

// wasCancelled: a flush tells the id of what it named, which has not been decided.
func (w *watcher) wasCancelled(t *testing.T, id, named int) {
	t.Helper()
	x := w.all[id]
	if id != named || x.flush || x.decided || x.cancelled {
		t.Fatalf("%d is cancelled, named was %d: %+v", id, named, x)
	}
	x.cancelled = true
}

// wasWritten: each reply, each Rflush once; no reply behind the Rflush of a flush that named the request; flushes of one request in their order.
func (w *watcher) wasWritten(t *testing.T, id int, m api.Msg) {
	t.Helper()
	x := w.all[id]
	if x.written || x.gone || m.Tag != x.tag || !x.flush && !x.replied || x.flush != (m.Kind == api.Rflush) {
		t.Fatalf("%d is written: %+v: %+v", id, m, x)
	}
	x.written = true
	for _, other := range w.ids {
		y := w.all[other]
		if !x.flush && y.flush && y.named == id && y.written {
			t.Fatalf("the reply to %d is written behind the Rflush of %d", id, other)
		}
		if x.flush && y.flush && x.named != 0 && x.named == y.named && other < id && !y.written {
			t.Fatalf("the flush %d is answered ahead of %d, both name %d", id, other, x.named)
		}
	}
	if x.flush && x.named != 0 && !w.all[x.named].flush && w.all[x.named].decided && !w.all[x.named].written {
		t.Fatalf("the Rflush of %d is written, and %d was decided", id, x.named)
	}
	w.free(id)
	if x.flush && x.named != 0 && w.all[x.named].cancelled {
		w.free(x.named)
	}
}

func (w *watcher) free(id int) {
	if tag := w.all[id].tag; w.holder[tag] == id {
		delete(w.holder, tag)
	}
}

// wasReset: those are told that have a tag, and were neither decided nor cancelled.
func (w *watcher) wasReset(t *testing.T, ids []int) {
	t.Helper()
	var want []int
	for _, id := range w.ids {
		x := w.all[id]
		if w.holder[x.tag] == id && !x.flush && !x.decided && !x.cancelled {
			want = append(want, id)
		}
		x.gone = true
	}
	if !slices.Equal(ids, want) {
		t.Fatalf("Reset: %v, want %v", ids, want)
	}
	clear(w.holder)
}

// wantTaken: just those tags are taken that were begun, and whose reply, or the Rflush that took them back, was not written.
func (w *watcher) wantTaken(t *testing.T) {
	t.Helper()
	rows := w.l.Rows()
	if len(rows) != len(w.holder) {
		t.Fatalf("%v are taken, want %v", rows, w.holder)
	}
	for i, r := range rows {
		if w.holder[r.Tag] != r.Serial || i > 0 && rows[i-1].Tag >= r.Tag {
			t.Fatalf("%v are taken, want %v", rows, w.holder)
		}
	}
}

// does does a call, and watches what it tells.
func (w *watcher) does(t *testing.T, c call) answer {
	t.Helper()
	switch c.what {
	case "Say":
		c.m.Kind = api.Rerror // known by it from what the table's are answered
	case "Reply":
		c.m.Kind = api.Rread
	}
	r := c.doneBy(w.l)
	w.after(t, c, r)
	w.wantTaken(t)
	return r
}

// drain lets all that was begun come to its end: whatever was not taken back is decided, and answered, and written.
func (w *watcher) drain(t *testing.T, rnd *rand.Rand) {
	t.Helper()
	rows := w.l.Rows()
	for _, at := range rnd.Perm(len(rows)) {
		w.does(t, decide(rows[at].Serial))
		w.does(t, reply(rows[at].Serial, rclunk(0)))
	}
	for len(w.l.Waiting()) > 0 {
		w.does(t, next())
	}
	if left := w.l.Rows(); len(left) > 0 {
		t.Fatalf("in the end: %v", left)
	}
	for _, id := range w.ids {
		x := w.all[id]
		if !x.gone && (x.written == x.cancelled || !x.flush && x.decided != x.written) {
			t.Fatalf("in the end %d: %+v", id, x)
		}
	}
}

// BEHIND AN RFLUSH NO REPLY; who was cancelled is never decided; each is answered once; flushes of one request in their order; a tag is one request's: by the table's answers alone. And in the end each was answered that was not taken back.
func TestTheorem(t *testing.T) {
	rnd := rand.New(rand.NewSource(3))
	cancelled, answered, flushes := 0, 0, 0
	for range 600 {
		most := oneOf(rnd, 1, 2, 4, 8, 64)
		w, m, few := newWatcher(t, most), &model{most: most}, 2+rnd.Intn(7)
		for range 150 {
			c := m.someCall(rnd, few)
			c.meantBy(m) // only to know what may be called next
			w.does(t, c)
		}
		w.drain(t, rnd)
		for _, x := range w.all {
			switch {
			case x.gone:
			case x.flush:
				flushes++
			case x.cancelled:
				cancelled++
			default:
				answered++
			}
		}
	}
	if cancelled < 500 || answered < 500 || flushes < 1000 {
		t.Errorf("%d were cancelled, %d answered, %d flushes", cancelled, answered, flushes)
	}
}

// permute hands on all orders of the numbers below n that begin so.
func permute(order []int, n int, use func([]int)) {
	if len(order) == n {
		use(order)
	}
	for i := range n {
		if !slices.Contains(order, i) {
			permute(append(slices.Clone(order), i), n, use)
		}
	}
}

// T2, in each order in which these may come about: a request is decided, and answered; three flushes come, one of them of another one's tag; the tag's next request comes, if it may; two messages are written. (What comes too early is refused.)
func TestTakenBack(t *testing.T) {
	rnd := rand.New(rand.NewSource(4))
	ends := map[string]int{}
	permute(nil, 8, func(order []int) {
		w, id, told := newWatcher(t, 4), 1, ""
		w.does(t, begin(1, id))
		for _, n := range order {
			id++
			c := []call{decide(1), reply(1, rclunk(0)), flush(2, 1, id), flush(3, 1, id), flush(4, 2, id), begin(1, id), next(), next()}[n]
			told += w.told(c, w.does(t, c))
		}
		for len(w.l.Waiting()) > 0 {
			told += w.told(next(), w.does(t, next()))
		}
		w.drain(t, rnd)
		ends[told]++
	})
	for _, end := range []string{"FF", "RFF", "FnF", "RnFF", "RFnF"} {
		if ends[end] == 0 {
			t.Errorf("%s: never; %v", end, ends)
		}
	}
	for end := range ends {
		if _, behind, _ := strings.Cut(end, "F"); strings.Contains(behind, "R") {
			t.Errorf("%s: a reply behind an Rflush", end)
		}
	}
}

// told is what is to be seen of the first request: R is its reply, F an Rflush of a flush that named it, n that another one has its tag.
func (w *watcher) told(c call, r answer) string {
	switch {
	case c.what == "Begin" && r.e == api.OK:
		return "n"
	case c.what == "Next" && r.ok && r.id == 1:
		return "R"
	case c.what == "Next" && r.ok && w.all[r.id].named == 1:
		return "F"
	}
	return ""
}
