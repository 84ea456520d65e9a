package fids_test

import (
	"fmt"
	"math"
	"math/rand"
	"reflect"
	"slices"
	"strings"
	"testing"

	"verger/api"
	"verger/fids"
)

// The model: what the chapter says, in other words than the package's, to hold the package against. A table is a list of fids in the order in which they came; whatever is asked is looked for in it.

type model struct {
	most int
	list []api.FidAt
}

const (
	noFid = 4294967295
	shut  = 1
	open  = 2
	auth  = 3
)

// reason is why a call is refused, if it is so.
type reason struct {
	is  bool
	err api.Errno
}

// first is the first reason that there is.
func first(l ...reason) api.Errno {
	for _, r := range l {
		if r.is {
			return r.err
		}
	}
	return 0
}

// at is where a number stands; -1, if it does not.
func (m *model) at(num uint32) int {
	for i, f := range m.list {
		if f.Num == num {
			return i
		}
	}
	return -1
}

func (m *model) there(num uint32) bool { return m.at(num) >= 0 }

func (m *model) is(num uint32, state api.FidState) bool {
	return m.there(num) && m.list[m.at(num)].Fid.State == state
}

func noState(f api.Fid) bool { return f.State < 1 || f.State > 3 }

// put puts a fid in, in the place of what stands under its number.
func (m *model) put(num uint32, f api.Fid) {
	f.Talk.Heard = slices.Clone(f.Talk.Heard)
	m.drop(num)
	m.list = append(m.list, api.FidAt{Num: num, Fid: f})
}

func (m *model) drop(num uint32) {
	m.list = slices.DeleteFunc(m.list, func(f api.FidAt) bool { return f.Num == num })
}

func (m *model) get(num uint32) (api.Fid, api.Errno) {
	if !m.there(num) {
		return api.Fid{}, 100
	}
	return m.list[m.at(num)].Fid, 0
}

// new are the reasons why a number can be none that is new.
func (m *model) new(num uint32) []reason {
	return []reason{{num == noFid, 103}, {m.there(num), 101}, {len(m.list) == m.most, 102}}
}

func (m *model) add(num uint32, f api.Fid) api.Errno {
	e := first(append([]reason{{noState(f), 1}}, m.new(num)...)...)
	if e == 0 {
		m.put(num, f)
	}
	return e
}

func (m *model) set(num uint32, f api.Fid) api.Errno {
	e := first(reason{noState(f), 1}, reason{!m.there(num), 100})
	if e == 0 {
		m.put(num, f)
	}
	return e
}

func (m *model) take(num uint32) (api.Fid, api.Errno) {
	f, e := m.get(num)
	m.drop(num)
	return f, e
}

// room are the reasons why one number can't come to another.
func (m *model) room(num, newnum uint32) []reason {
	l := []reason{{!m.there(num), 100}}
	if newnum != num {
		l = append(l, m.new(newnum)...)
	}
	return l
}

func (m *model) walk(num, newnum uint32, node uint64) api.Errno {
	e := first(append(m.room(num, newnum), reason{m.is(num, open), 112}, reason{m.is(num, auth), 116})...)
	if e == 0 {
		f, _ := m.get(num)
		m.put(newnum, api.Fid{State: shut, Node: node, User: f.User})
	}
	return e
}

func (m *model) open(num uint32, node uint64, mode uint8, remove bool) api.Errno {
	e := first(reason{!m.there(num), 100}, reason{m.is(num, open), 112}, reason{m.is(num, auth), 116})
	if e == 0 {
		f, _ := m.get(num)
		m.put(num, api.Fid{State: open, Node: node, User: f.User, Mode: mode % 4, Remove: remove})
	}
	return e
}

func (m *model) told(num uint32, last, bytes uint64) api.Errno {
	e := first(reason{!m.there(num), 100}, reason{!m.is(num, open), 117})
	if e == 0 {
		f, _ := m.get(num)
		f.Last, f.Told = last, bytes
		m.put(num, f)
	}
	return e
}

// all are the fids, the least number first.
func (m *model) all() []api.FidAt {
	var l []api.FidAt
	for least, from := int64(0), int64(0); ; from = least + 1 {
		least = math.MaxInt64
		for _, f := range m.list {
			if n := int64(f.Num); n >= from && n < least {
				least = n
			}
		}
		if least == math.MaxInt64 {
			return l
		}
		f, _ := m.get(uint32(least))
		l = append(l, api.FidAt{Num: uint32(least), Fid: f})
	}
}

func (m *model) clear() []api.FidAt {
	l := m.all()
	m.list = nil
	return l
}

func (m *model) opens(node uint64) int {
	n := 0
	for _, f := range m.list {
		if m.is(f.Num, open) && f.Fid.Node == node {
			n++
		}
	}
	return n
}

func (m *model) clone() *model { return &model{m.most, slices.Clone(m.list)} }

// same holds fids against one another; a list of nothing may be nil or not.
func same(a, b api.Fid) bool {
	if len(a.Talk.Heard) == 0 && len(b.Talk.Heard) == 0 {
		a.Talk.Heard, b.Talk.Heard = nil, nil
	}
	return reflect.DeepEqual(a, b)
}

func sameAll(a, b []api.FidAt) bool {
	return slices.EqualFunc(a, b, func(x, y api.FidAt) bool { return x.Num == y.Num && same(x.Fid, y.Fid) })
}

// failf ends a test with a line, however long what it tells is, and whatever bytes that has.
func failf(t *testing.T, format string, args ...any) {
	t.Helper()
	text := fmt.Sprintf(format, args...)
	t.Fatal(strings.ToValidUTF8(text[:min(len(text), 2000)], "?"))
}

// collected are the fids that a table goes through.
func collected(f *fids.Table) []api.FidAt {
	var l []api.FidAt
	for num, x := range f.All() {
		l = append(l, api.FidAt{Num: num, Fid: x})
	}
	return l
}

// pair is a table and its model: each call is asked of both.
type pair struct {
	f *fids.Table
	m *model
}

func newTable(t *testing.T, most int) *fids.Table {
	t.Helper()
	f, e := fids.New(most)
	if f == nil || e != api.OK {
		failf(t, "New(%d): %v, %d", most, f, e)
	}
	return f
}

func newPair(t *testing.T, most int) pair {
	t.Helper()
	return pair{newTable(t, most), &model{most: most}}
}

// call is a call by which a table may become another one.
type call struct {
	what        string
	num, newnum uint32
	fid         api.Fid
	node        uint64
	mode        uint8
	remove      bool
	last, bytes uint64
}

func adding(num uint32, f api.Fid) call { return call{what: "Add", num: num, fid: f} }

func setting(num uint32, f api.Fid) call { return call{what: "Set", num: num, fid: f} }

func taking(num uint32) call { return call{what: "Take", num: num} }

func walking(num, newnum uint32, node uint64) call {
	return call{what: "Walk", num: num, newnum: newnum, node: node}
}

func opening(num uint32, node uint64, mode uint8, remove bool) call {
	return call{what: "Open", num: num, node: node, mode: mode, remove: remove}
}

func telling(num uint32, last, bytes uint64) call {
	return call{what: "Told", num: num, last: last, bytes: bytes}
}

func clearing() call { return call{what: "Clear"} }

// do does a call: the table has to answer as the model.
func (p pair) do(t *testing.T, c call) api.Errno {
	t.Helper()
	var e, want api.Errno
	switch c.what {
	case "Add":
		e, want = p.f.Add(c.num, c.fid), p.m.add(c.num, c.fid)
	case "Set":
		e, want = p.f.Set(c.num, c.fid), p.m.set(c.num, c.fid)
	case "Walk":
		e, want = p.f.Walk(c.num, c.newnum, c.node), p.m.walk(c.num, c.newnum, c.node)
	case "Open":
		e, want = p.f.Open(c.num, c.node, c.mode, c.remove), p.m.open(c.num, c.node, c.mode, c.remove)
	case "Told":
		e, want = p.f.Told(c.num, c.last, c.bytes), p.m.told(c.num, c.last, c.bytes)
	case "Take":
		f, fe := p.f.Take(c.num)
		is, ie := p.m.take(c.num)
		if e, want = fe, ie; !same(f, is) {
			failf(t, "%+v: %+v, want %+v", c, f, is)
		}
	case "Clear":
		if l, is := p.f.Clear(), p.m.clear(); !sameAll(l, is) {
			failf(t, "Clear: %+v, want %+v", l, is)
		}
	default:
		failf(t, "no call: %+v", c)
	}
	if e != want {
		failf(t, "%+v of %+v: %d, want %d", c, p.m.list, e, want)
	}
	return e
}

// wantDo does a call that has to be done.
func (p pair) wantDo(t *testing.T, l ...call) {
	t.Helper()
	for _, c := range l {
		if e := p.do(t, c); e != api.OK {
			failf(t, "%+v: %d", c, e)
		}
	}
	p.wantSame(t)
}

// wantRefused does a call that has to be refused, and to change nothing.
func (p pair) wantRefused(t *testing.T, c call, want api.Errno) {
	t.Helper()
	was := pair{p.f, p.m.clone()}
	if e := p.do(t, c); e != want {
		failf(t, "%+v: %d, want %d", c, e, want)
	}
	was.wantSame(t)
}

func (p pair) wantGet(t *testing.T, num uint32) {
	t.Helper()
	f, e := p.f.Get(num)
	if is, want := p.m.get(num); !same(f, is) || e != want {
		failf(t, "Get(%d) of %+v: %+v, %d; want %+v, %d", num, p.m.list, f, e, is, want)
	}
}

func (p pair) wantRoom(t *testing.T, num, newnum uint32) api.Errno {
	t.Helper()
	e := p.f.Room(num, newnum)
	if want := first(p.m.room(num, newnum)...); e != want {
		failf(t, "Room(%d, %d) of %+v: %d, want %d", num, newnum, p.m.list, e, want)
	}
	return e
}

func (p pair) wantOpens(t *testing.T, node uint64, want int) {
	t.Helper()
	if n, is := p.f.Opens(node), p.m.opens(node); n != is || n != want {
		failf(t, "Opens(%d) of %+v: %d, want %d (the model: %d)", node, p.m.list, n, want, is)
	}
}

// wantSame asks a table all that does not change it.
func (p pair) wantSame(t *testing.T) {
	t.Helper()
	all := p.m.all()
	if l := collected(p.f); !sameAll(l, all) {
		failf(t, "All: %+v, want %+v", l, all)
	}
	if n := p.f.Count(); n != len(all) {
		failf(t, "Count: %d, want %d", n, len(all))
	}
	nums, places := []uint32{0, 1, 7, noFid - 1, noFid}, []uint64{0, 1, 7, math.MaxUint64}
	for _, f := range all {
		nums, places = append(nums, f.Num), append(places, f.Fid.Node)
	}
	for i, num := range nums {
		p.wantGet(t, num)
		p.wantRoom(t, num, nums[0])
		p.wantRoom(t, num, nums[(i+1)%len(nums)])
		p.wantRoom(t, num, num)
		p.wantRoom(t, num, noFid)
		p.wantRoom(t, num, 1000000)
	}
	for _, node := range places {
		p.wantOpens(t, node, p.m.opens(node))
	}
}

// oneOf is one of a list.
func oneOf[V any](rnd *rand.Rand, l ...V) V { return l[rnd.Intn(len(l))] }

// number is a number of any size.
func number(rnd *rand.Rand) uint64 { return rnd.Uint64() >> rnd.Intn(64) }

func someBytes(rnd *rand.Rand) []byte {
	b := make([]byte, rnd.Intn(40), 64)
	rnd.Read(b)
	return b
}

// someFid is a fid that has something of everything, in whatever state.
func someFid(rnd *rand.Rand, states ...api.FidState) api.Fid {
	return api.Fid{
		State: oneOf(rnd, states...), Node: 1 + number(rnd)%5, User: oneOf(rnd, "ann", "bob", "", "\xff\x00"), Mode: uint8(number(rnd)), Remove: rnd.Intn(2) > 0,
		Last: number(rnd), Told: number(rnd),
		Talk: api.Talk{User: oneOf(rnd, "eve", ""), Tree: oneOf(rnd, "t", ""), Ours: number(rnd), Theirs: number(rnd), Step: api.TalkStep(rnd.Intn(7)), Said: int(number(rnd)), Heard: someBytes(rnd)},
	}
}

// goodFid is a fid that can be put in.
func goodFid(rnd *rand.Rand) api.Fid { return someFid(rnd, shut, shut, open, auth) }

// someNum is one of not many numbers: of those that are there, of their neighbours, of the least and the greatest.
func (m *model) someNum(rnd *rand.Rand) uint32 {
	if len(m.list) > 0 && rnd.Intn(3) > 0 {
		return oneOf(rnd, m.list...).Num + oneOf[uint32](rnd, 0, 0, 0, 0, 0, 0, 1, math.MaxUint32)
	}
	return oneOf(rnd, 0, 1, uint32(rnd.Intn(300)), rnd.Uint32(), noFid-1, noFid)
}

// someCall is a call, with numbers that often stand in the table; seldom one that clears it.
func (m *model) someCall(rnd *rand.Rand) call {
	c := call{num: m.someNum(rnd), newnum: m.someNum(rnd), fid: someFid(rnd, shut, shut, open, auth, 0, 4, 255), node: 1 + number(rnd)%5, mode: uint8(number(rnd)), remove: rnd.Intn(2) > 0, last: number(rnd), bytes: number(rnd)}
	if c.what = oneOf(rnd, "Add", "Add", "Set", "Take", "Walk", "Walk", "Open", "Told", "Told"); rnd.Intn(500) == 0 {
		c.what = "Clear"
	}
	if c.what == "Walk" && rnd.Intn(4) == 0 {
		c.newnum = c.num
	}
	return c
}

func (m *model) text() string { return fmt.Sprintf("%+v", m.all()) }
