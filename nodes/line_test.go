package nodes_test

import (
	"fmt"
	"math/rand"
	"slices"
	"strings"
	"sync/atomic"
	"testing"

	"verger/api"
	"verger/nodes"
)

// Each call is done as at one moment between its beginning and its end: what a few goroutines were told at one time, the model tells too, if it is asked in some order in which no call stands behind one that began when it had ended.

// call is one that was made: when it began and ended, what it told, and what the model does and tells.
type call struct {
	begin, end int64
	text, told string
	model      func(*model) string
}

// diary is what one goroutine did.
type diary struct {
	clock *atomic.Int64
	calls []call
}

func (d *diary) note(text string, ask func() string, model func(*model) string) {
	c := call{begin: d.clock.Add(1), text: text, model: model}
	c.told = ask()
	c.end = d.clock.Add(1)
	d.calls = append(d.calls, c)
}

// inLine tells whether there is such an order.
func inLine(m *model, calls []call) bool {
	if len(calls) == 0 {
		return true
	}
	ends := slices.MinFunc(calls, func(a, b call) int { return int(a.end - b.end) }).end
	for i, c := range calls {
		if c.begin > ends {
			continue
		}
		if next := m.clone(); c.model(next) == c.told && inLine(next, slices.Delete(slices.Clone(calls), i, i+1)) {
			return true
		}
	}
	return false
}

// act makes one of all calls that there are.
func (d *diary) act(rnd *rand.Rand, m *model, s *nodes.Store) {
	path, last, name := uint64(rnd.Intn(7)), uint64(rnd.Intn(6)), oneOf(rnd, "a", "b", "c")
	switch rnd.Intn(16) {
	case 0, 1:
		d.note(fmt.Sprintf("Node(%d)", path), func() string { return fmt.Sprint(s.Node(path)) }, func(m *model) string { return fmt.Sprint(m.node(path)) })
	case 2:
		d.note(fmt.Sprintf("Child(%d, %s)", path, name), func() string { return fmt.Sprint(s.Child(path, name)) }, func(m *model) string { return fmt.Sprint(m.child(path, name)) })
	case 3:
		d.note(fmt.Sprintf("After(%d, %d)", path, last), func() string { return fmt.Sprint(s.After(path, last)) }, func(m *model) string { return fmt.Sprint(m.after(path, last)) })
	case 4:
		d.note(fmt.Sprintf("Read(%d)", path), func() string { return string(s.Read(path, last, 600)) }, func(m *model) string { return m.read(path, last, 600) })
	case 5:
		d.note("Next", func() string { return fmt.Sprint(s.Next()) }, func(m *model) string { return fmt.Sprint(m.next) })
	case 6:
		d.note("Count", func() string { return fmt.Sprint(s.Count()) }, func(m *model) string { return fmt.Sprint(len(m.list)) })
	case 7:
		var c *nodes.Store
		d.note("Clone", func() string { c = s.Clone(); return "" }, func(m *model) string { return m.all().String() })
		d.calls[len(d.calls)-1].told = allOf(c).String()
	case 8:
		d.goThrough(s)
	default:
		d.operate(rnd, m, s)
	}
}

// goThrough notes each step of a range as a call: it begins where the caller goes on, and ends where they are told of a node.
func (d *diary) goThrough(s *nodes.Store) {
	begin, last := d.clock.Add(1), uint64(0)
	step := func(n api.Node, is bool) {
		from := last
		d.calls = append(d.calls, call{begin, d.clock.Add(1), fmt.Sprintf("All behind %d", from), fmt.Sprint(n, is), func(m *model) string { return fmt.Sprint(m.nodeAfter(from)) }})
		begin, last = d.clock.Add(1), n.Path
	}
	for n := range s.All() {
		step(n, true)
	}
	step(api.Node{}, false)
}

func (d *diary) operate(rnd *rand.Rand, m *model, s *nodes.Store) {
	o := m.someOp(rnd)
	o.Path, o.Offset = uint64(rnd.Intn(7)), o.Offset%600
	o.Node.Name, o.Name = oneOf(rnd, "a", "b", "c"), oneOf(rnd, "a", "b", "c")
	o.Data = someData(rnd, o.Offset)
	d.note(opText(o), func() string { return fmt.Sprint(s.Do(o)) }, func(m *model) string { return fmt.Sprint(m.do(o)) })
}

func TestInLine(t *testing.T) {
	for round := range 1500 {
		p := newPair(t, 6)
		p.wantDo(t, making(1, "a", aDir), 2)
		p.wantDo(t, making(1, "b", aFile), 3)
		p.wantDo(t, making(2, "a", aFile), 4)
		p.fill(t, 3, 300)
		var clock atomic.Int64
		diaries := make([]diary, 3)
		together(len(diaries), func(hand int, _ *rand.Rand) {
			rnd := rand.New(rand.NewSource(int64(round*10 + hand)))
			d := diary{clock: &clock}
			for range 4 {
				d.act(rnd, p.m, p.s)
			}
			diaries[hand] = d
		})
		var calls []call
		for _, d := range diaries {
			calls = append(calls, d.calls...)
		}
		calls = append(calls, call{clock.Add(1), clock.Add(1), "in the end", allOf(p.s).String(), func(m *model) string { return m.all().String() }})
		if !inLine(p.m, calls) {
			t.Fatalf("in no order:\n%s", callsText(calls))
		}
	}
}

func callsText(calls []call) string {
	var s strings.Builder
	for _, c := range calls {
		fmt.Fprintf(&s, "%d to %d: %.600s: %.600s\n", c.begin, c.end, c.text, c.told)
	}
	return s.String()
}
