package tags_test

import (
	"fmt"
	"math/rand"
	"reflect"
	"slices"
	"testing"

	"verger/api"
	"verger/tags"
)

// The model: what the chapter says, in other words than the package's, to hold the package against. A table is the list of all that was ever begun, in that order, with what has befallen each; which tags are taken, and in which state each one is, is looked for in this list each time anew.

type begun struct {
	tag       uint16
	id        int
	flush     bool
	found     int          // a flush: where in the list stands what had the tag that it names; else -1
	foundIn   api.TagState // and in which state that was
	cancelled bool
	decided   bool
	replied   bool // its reply, or its Rflush, was put in the row
	written   bool
	isReset   bool
}

// line is a message in the row, and whose it is: where that stands in the list; -1: nothing of the table's.
type line struct {
	m     api.Msg
	id    int
	whose int
}

type model struct {
	most int
	list []begun
	row  []line
}

const (
	errArg     = 1
	errTag     = 120
	errTagUsed = 140
	errTagFull = 141
	errTagNone = 142
)

func (m *model) state(at int) api.TagState {
	b := m.list[at]
	switch {
	case b.flush && b.replied:
		return api.TagFlushed
	case b.flush:
		return api.TagFlush
	case b.cancelled:
		return api.TagCancelled
	case b.replied:
		return api.TagAnswered
	case b.decided:
		return api.TagDecided
	}
	return api.TagOpen
}

// over tells whether a request or a flush has no tag any more.
func (m *model) over(at int) bool {
	if b := m.list[at]; b.written || b.isReset || !b.cancelled {
		return b.written || b.isReset
	}
	return slices.ContainsFunc(m.list, func(b begun) bool {
		return b.written && b.flush && b.found == at && (b.foundIn == api.TagOpen || b.foundIn == api.TagCancelled)
	})
}

// those are the places of all that have a tag and are such.
func (m *model) those(such func(b begun) bool) []int {
	var l []int
	for at, b := range m.list {
		if !m.over(at) && such(b) {
			l = append(l, at)
		}
	}
	return l
}

// holder is where in the list stands what has a tag; -1, if it is not taken.
func (m *model) holder(tag uint16) int {
	l := m.those(func(b begun) bool { return b.tag == tag })
	if len(l) == 0 {
		return -1
	}
	return l[0]
}

// called is where in the list stands what has an id and a tag, in that state; -1, if nothing does.
func (m *model) called(id int, state api.TagState) int {
	for _, at := range m.those(func(b begun) bool { return b.id == id }) {
		if m.state(at) == state {
			return at
		}
	}
	return -1
}

func (m *model) greatest() int {
	most := 0
	for _, b := range m.list {
		most = max(most, b.id)
	}
	return most
}

func (m *model) begin(tag uint16, id int) api.Errno {
	switch {
	case id <= 0 || id <= m.greatest():
		return errArg
	case tag == 0xffff:
		return errTag
	case m.holder(tag) >= 0:
		return errTagUsed
	case len(m.rows()) >= m.most:
		return errTagFull
	}
	m.list = append(m.list, begun{tag: tag, id: id, found: -1})
	return 0
}

func (m *model) flush(tag, old uint16, id int) (int, api.Errno) {
	found, foundIn := m.holder(old), api.TagState(0)
	if found >= 0 {
		foundIn = m.state(found)
	}
	if e := m.begin(tag, id); e != 0 {
		return 0, e
	}
	at := len(m.list) - 1
	m.list[at].flush, m.list[at].found, m.list[at].foundIn = true, found, foundIn
	switch foundIn {
	case api.TagOpen:
		m.list[found].cancelled = true
		m.answer(at, api.Msg{Kind: api.Rflush})
		return m.list[found].id, 0
	case api.TagDecided, api.TagFlush:
		return 0, 0
	}
	m.answer(at, api.Msg{Kind: api.Rflush})
	return 0, 0
}

// answer puts what something is answered, with its tag, in the row.
func (m *model) answer(at int, r api.Msg) {
	r.Tag = m.list[at].tag
	m.list[at].replied = true
	m.row = append(m.row, line{deep(r), m.list[at].id, at})
}

func (m *model) decide(id int) bool {
	at := m.called(id, api.TagOpen)
	if at >= 0 {
		m.list[at].decided = true
	}
	return at >= 0
}

// comesTo is the request that a flush found, or that which a flush found that it found, and so on; -1, if there is none.
func (m *model) comesTo(at int) int {
	for at >= 0 && m.list[at].flush {
		at = m.list[at].found
	}
	return at
}

func (m *model) reply(id int, r api.Msg) api.Errno {
	at := m.called(id, api.TagDecided)
	if at < 0 {
		return errTagNone
	}
	m.answer(at, r)
	for _, other := range m.those(func(b begun) bool { return b.flush && !b.replied }) {
		if m.comesTo(other) == at {
			m.answer(other, api.Msg{Kind: api.Rflush})
		}
	}
	return 0
}

func (m *model) say(id int, r api.Msg) { m.row = append(m.row, line{deep(r), id, -1}) }

func (m *model) next() (api.Msg, int, bool) {
	if len(m.row) == 0 {
		return api.Msg{}, 0, false
	}
	first := m.row[0]
	m.row = slices.Clone(m.row[1:])
	if first.whose >= 0 {
		m.list[first.whose].written = true
	}
	return deep(first.m), first.id, true
}

func (m *model) reset() []int {
	var open []int
	for _, at := range m.those(func(begun) bool { return true }) {
		if m.state(at) == api.TagOpen {
			open = append(open, m.list[at].id)
		}
		m.list[at].isReset = true
	}
	slices.Sort(open)
	m.row = nil
	return open
}

func (m *model) rows() []api.TagRow {
	var l []api.TagRow
	for _, at := range m.those(func(begun) bool { return true }) {
		l = append(l, api.TagRow{Tag: m.list[at].tag, Serial: m.list[at].id, State: m.state(at)})
	}
	slices.SortFunc(l, func(a, b api.TagRow) int { return int(a.Tag) - int(b.Tag) })
	return l
}

func (m *model) waiting() []api.Msg {
	var l []api.Msg
	for _, x := range m.row {
		l = append(l, deep(x.m))
	}
	return l
}

func (m *model) clone() *model {
	return &model{m.most, slices.Clone(m.list), slices.Clone(m.row)}
}

func (m *model) String() string {
	text := fmt.Sprint("a table of ", m.most, ": ", m.rows(), ", row")
	for _, x := range m.row {
		text += fmt.Sprint(" ", x.m.Kind, ".", x.m.Tag, " of ", x.id)
	}
	return text
}

// text is all by which a table's next answers may differ from another one's; of the ids it tells the order alone.
func (m *model) text() string {
	ids := []int{}
	for _, b := range m.list {
		ids = append(ids, b.id)
	}
	slices.Sort(ids)
	live := []int{}
	for at := range m.list {
		if !m.over(at) {
			live = append(live, at)
		}
	}
	rank := func(at int) int { return slices.Index(live, at) }
	text := ""
	for _, at := range live {
		b := m.list[at]
		text += fmt.Sprint(b.tag, m.state(at), rank(b.found), rank(m.comesTo(at)), "; ")
	}
	for _, x := range m.row {
		text += fmt.Sprint(x.m.Tag, rank(x.whose), " ")
	}
	return text
}

// deep is a message that has lists of its own.
func deep(m api.Msg) api.Msg {
	m.Names = append([]string{}, m.Names...)
	m.Qids = append([]api.Qid{}, m.Qids...)
	m.Data = append([]byte{}, m.Data...)
	return m
}

// sameMsg tells whether two messages are the same; a list of nothing is the same as none.
func sameMsg(a, b api.Msg) bool { return reflect.DeepEqual(deep(a), deep(b)) }

// pair is a table and its model: each call is asked of both.
type pair struct {
	l *tags.Table
	m *model
}

func newPair(t *testing.T, most int) pair {
	t.Helper()
	l, e := tags.New(most)
	if l == nil || e != api.OK {
		t.Fatalf("New(%d): %v, %v", most, l, e)
	}
	return pair{l, &model{most: most}}
}

// call is a call by which a table may become another one.
type call struct {
	what     string
	tag, old uint16
	id       int
	m        api.Msg
}

func begin(tag uint16, id int) call { return call{what: "Begin", tag: tag, id: id} }

func flush(tag, old uint16, id int) call { return call{what: "Flush", tag: tag, old: old, id: id} }

func decide(id int) call { return call{what: "Decide", id: id} }

func reply(id int, m api.Msg) call { return call{what: "Reply", id: id, m: m} }

func say(id int, m api.Msg) call { return call{what: "Say", id: id, m: m} }

func next() call { return call{what: "Next"} }

func reset() call { return call{what: "Reset"} }

// answer is what a call told.
type answer struct {
	id  int
	ok  bool
	m   api.Msg
	ids []int
	e   api.Errno
}

func (a answer) is(b answer) bool {
	return a.id == b.id && a.ok == b.ok && sameMsg(a.m, b.m) && slices.Equal(a.ids, b.ids) && a.e == b.e
}

func (c call) doneBy(l *tags.Table) answer {
	var a answer
	switch c.what {
	case "Begin":
		a.e = l.Begin(c.tag, c.id)
	case "Flush":
		a.id, a.e = l.Flush(c.tag, c.old, c.id)
	case "Decide":
		a.ok = l.Decide(c.id)
	case "Reply":
		a.e = l.Reply(c.id, c.m)
	case "Say":
		l.Say(c.id, c.m)
	case "Next":
		a.m, a.id, a.ok = l.Next()
	case "Reset":
		a.ids = l.Reset()
	}
	return a
}

func (c call) meantBy(m *model) answer {
	var a answer
	switch c.what {
	case "Begin":
		a.e = m.begin(c.tag, c.id)
	case "Flush":
		a.id, a.e = m.flush(c.tag, c.old, c.id)
	case "Decide":
		a.ok = m.decide(c.id)
	case "Reply":
		a.e = m.reply(c.id, c.m)
	case "Say":
		m.say(c.id, c.m)
	case "Next":
		a.m, a.id, a.ok = m.next()
	case "Reset":
		a.ids = m.reset()
	}
	return a
}

// do does a call: the table has to answer as the model.
func (p pair) do(t *testing.T, c call) answer {
	t.Helper()
	was := p.m.clone()
	a, want := c.doneBy(p.l), c.meantBy(p.m)
	if !a.is(want) {
		t.Fatalf("%+v of %v: %+v, want %+v", c, was, a, want)
	}
	return a
}

// wantAll does a call that has to be answered so, and looks at the whole table then.
func (p pair) wantAll(t *testing.T, c call, want answer) {
	t.Helper()
	if a := p.do(t, c); !a.is(want) {
		t.Fatalf("%+v: %+v, want %+v", c, a, want)
	}
	p.wantSame(t)
}

// does does calls that have to be answered with nothing but OK.
func (p pair) does(t *testing.T, l ...call) {
	t.Helper()
	for _, c := range l {
		p.wantAll(t, c, answer{})
	}
}

// cancels does a Flush that has to cancel this request.
func (p pair) cancels(t *testing.T, c call, id int) {
	t.Helper()
	p.wantAll(t, c, answer{id: id})
}

// decides asks for decisions, which have to be granted.
func (p pair) decides(t *testing.T, ids ...int) {
	t.Helper()
	for _, id := range ids {
		p.wantAll(t, decide(id), answer{ok: true})
	}
}

// refuses does a call that has to be refused, and to change nothing.
func (p pair) refuses(t *testing.T, c call, e api.Errno) {
	t.Helper()
	was := pair{p.l, p.m.clone()}
	p.wantAll(t, c, answer{e: e})
	was.wantSame(t)
}

// writes takes the first one of the row, which has to be this message, of this id.
func (p pair) writes(t *testing.T, m api.Msg, id int) {
	t.Helper()
	p.wantAll(t, next(), answer{id: id, ok: true, m: m})
}

// wantSame asks a table all that does not change it.
func (p pair) wantSame(t *testing.T) {
	t.Helper()
	if got, want := p.l.Rows(), p.m.rows(); !slices.Equal(got, want) {
		t.Fatalf("Rows of %v: %v, want %v", p.m, got, want)
	}
	if got, want := p.l.Waiting(), p.m.waiting(); !slices.EqualFunc(got, want, sameMsg) {
		t.Fatalf("Waiting of %v: %v, want %v", p.m, got, want)
	}
}

// wantRows: these tags are taken, by these, in these states.
func (p pair) wantRows(t *testing.T, want ...api.TagRow) {
	t.Helper()
	if got := p.l.Rows(); !slices.Equal(got, want) {
		t.Fatalf("Rows: %v, want %v", got, want)
	}
}

// wantWaiting: the messages that wait have these tags.
func (p pair) wantWaiting(t *testing.T, want ...uint16) {
	t.Helper()
	var got []uint16
	for _, m := range p.l.Waiting() {
		got = append(got, m.Tag)
	}
	if !slices.Equal(got, want) {
		t.Fatalf("Waiting: the tags %v, want %v", got, want)
	}
}

func rflush(tag uint16) api.Msg { return api.Msg{Kind: api.Rflush, Tag: tag} }

func rclunk(tag uint16) api.Msg { return api.Msg{Kind: api.Rclunk, Tag: tag} }

// oneOf is one of a list.
func oneOf[V any](rnd *rand.Rand, l ...V) V { return l[rnd.Intn(len(l))] }

// someMsg is a message of whatever stands in its fields; its lists have spare room.
func someMsg(rnd *rand.Rand) api.Msg {
	m := api.Msg{Kind: api.Kind(100 + rnd.Intn(28)), Tag: uint16(rnd.Intn(6)), Msize: rnd.Uint32(), Ename: oneOf(rnd, "", "file exists"), Fid: rnd.Uint32(), Count: rnd.Uint32()}
	m.Names = append(make([]string, 0, 8), []string{"a", "", "c"}[:rnd.Intn(4)]...)
	m.Qids = append(make([]api.Qid, 0, 8), []api.Qid{{Path: 1}, {Kind: 128, Vers: 2}, {Path: 3}}[:rnd.Intn(4)]...)
	m.Data = append(make([]byte, 0, 8), []byte("data")[:rnd.Intn(5)]...)
	m.Qid, m.Stat = api.Qid{Path: rnd.Uint64()}, api.Stat{Name: oneOf(rnd, "", "n"), Length: rnd.Uint64()}
	return m
}

// someID is the id of one that has a tag, most often in that state; seldom another one.
func (m *model) someID(rnd *rand.Rand, state api.TagState) int {
	var ids []int
	for _, r := range m.rows() {
		if r.State == state || rnd.Intn(8) == 0 {
			ids = append(ids, r.Serial)
		}
	}
	if len(ids) == 0 || rnd.Intn(20) == 0 {
		return m.greatest() + 1 - rnd.Intn(9)
	}
	return oneOf(rnd, ids...)
}

// someCall is a call of all sorts, of a few tags: seldom a Reset.
func (m *model) someCall(rnd *rand.Rand, few int) call {
	c := call{what: oneOf(rnd, "Begin", "Begin", "Begin", "Flush", "Flush", "Decide", "Decide", "Reply", "Reply", "Next", "Next", "Next", "Say")}
	c.tag, c.old, c.id = uint16(rnd.Intn(few)), uint16(rnd.Intn(few)), m.greatest()+1+rnd.Intn(2)
	for range few {
		if rnd.Intn(4) > 0 && m.holder(c.tag) >= 0 {
			c.tag = (c.tag + 1) % uint16(few)
		}
		if rnd.Intn(4) > 0 && m.holder(c.old) < 0 {
			c.old = (c.old + 1) % uint16(few)
		}
	}
	if rnd.Intn(25) == 0 {
		c.tag, c.id = oneOf(rnd, c.tag, 0xffff), c.id-rnd.Intn(4)
	}
	switch c.what {
	case "Decide":
		c.id = m.someID(rnd, api.TagOpen)
	case "Reply":
		c.id, c.m = m.someID(rnd, api.TagDecided), someMsg(rnd)
	case "Say":
		c.id, c.m = m.someID(rnd, api.TagAnswered), someMsg(rnd)
	}
	if rnd.Intn(100) == 0 {
		return reset()
	}
	return c
}
