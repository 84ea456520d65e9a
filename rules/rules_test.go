package rules_test

import (
	"math"
	"math/rand"
	"runtime"
	"slices"
	"strings"
	"sync"
	"testing"

	"verger/api"
	"verger/rules"
	"verger/users"
)

// wild is a node of whatever numbers and texts.
func wild(rnd *rand.Rand) api.Node {
	text := func() string {
		b := make([]byte, rnd.Intn(300))
		rnd.Read(b)
		return string(b)
	}
	return api.Node{
		Path: rnd.Uint64() >> rnd.Intn(64), Parent: rnd.Uint64() >> rnd.Intn(64), Name: text(), Mode: rnd.Uint32(), Uid: text(), Gid: text(), Muid: text(),
		Atime: rnd.Uint32(), Mtime: rnd.Uint32(), Vers: rnd.Uint32(), Length: rnd.Uint64() >> rnd.Intn(64), Opens: int(rnd.Uint64()), Kids: int(rnd.Uint64()),
	}
}

// wildWant is a record of whatever numbers and texts, with some that touch nothing.
func wildWant(rnd *rand.Rand) api.Stat {
	want := record(wild(rnd))
	want.Type, want.Dev, want.Qid.Kind = uint16(rnd.Uint32()), rnd.Uint32(), uint8(rnd.Uint32())
	k := keep()
	if rnd.Intn(4) > 0 {
		want.Type, want.Dev, want.Qid, want.Atime, want.Uid, want.Muid = k.Type, k.Dev, k.Qid, k.Atime, "", ""
	}
	if rnd.Intn(2) > 0 {
		want.Mode, want.Mtime, want.Gid = k.Mode, k.Mtime, ""
	}
	return want
}

// R1: nothing panics and all ends, whatever is handed in; R5: an error is one of the chapter's, and beside it there is nothing.
func TestAnything(t *testing.T) {
	rnd := rand.New(rand.NewSource(8))
	tables := []court{newCourt(t), {newTable(t, nil), nil}, {new(users.Table), nil}, {nil, nil}}
	for range 20000 {
		c := tables[rnd.Intn(len(tables))]
		f := api.Facts{Node: wild(rnd), Parent: wild(rnd), Taken: rnd.Intn(2) > 0, Full: rnd.Intn(2) > 0}
		user := oneOf(rnd, f.Node.Uid, f.Parent.Uid, f.Node.Gid, "bob", "", wild(rnd).Uid)
		c.rights(t, user, f.Node)
		c.step(t, user, f.Node)
		c.open(t, user, f, uint8(rnd.Intn(256)))
		c.create(t, user, f, wild(rnd).Name, rnd.Uint32(), uint8(rnd.Intn(256)))
		c.remove(t, user, f)
		c.wstat(t, user, f, wildWant(rnd))
		if got := rules.Record(f.Node); got != record(f.Node) {
			t.Fatalf("Record(%s): %s", shown(f.Node), shown(got))
		}
	}
}

// R1: also the least and greatest numbers, and very long texts.
func TestExtremes(t *testing.T) {
	long := strings.Repeat("x", 1<<20)
	c := newCourt(t)
	for _, mode := range []uint32{0, dirBit, 0777, math.MaxUint32, math.MaxUint32 &^ dirBit} {
		for _, count := range []int{math.MinInt, 0, math.MaxInt} {
			n := api.Node{Path: math.MaxUint64, Parent: math.MaxUint64, Name: long, Mode: mode, Uid: long, Gid: long, Muid: long, Atime: math.MaxUint32, Mtime: math.MaxUint32, Vers: math.MaxUint32, Length: math.MaxUint64, Opens: count, Kids: count}
			f := api.Facts{Node: n, Parent: n}
			for _, user := range []string{long, "bob", ""} {
				c.rights(t, user, n)
				c.step(t, user, n)
				c.open(t, user, f, 0x53)
				c.create(t, user, f, long, math.MaxUint32, 0)
				c.create(t, user, f, "x", 0777, 0)
				c.remove(t, user, f)
				for _, want := range []api.Stat{record(n), aName(long + "y"), aGroup(long + "y"), aLength(math.MaxUint64 - 1), aMode(0), {}} {
					c.wstat(t, user, f, want)
				}
			}
		}
	}
}

// Where there is no table, nobody is known: an owner is one all the same.
func TestNoTable(t *testing.T) {
	for _, u := range []*users.Table{nil, new(users.Table), newTable(t, nil)} {
		c := court{u, nil}
		if got := c.rights(t, "bob", api.Node{Uid: "bob", Gid: "bob", Mode: 0421}); got != 5 {
			t.Errorf("the owner's rights: %d", got)
		}
		if e := c.step(t, "bob", api.Node{Mode: dirBit | 0010, Gid: "bob"}); e != api.ErrPerm {
			t.Errorf("Step: %d", e)
		}
		c.wantWstat(t, "bob", bobs(0), aMode(0600), api.OK)
		c.wantWstat(t, "sys", bobs(0), aMode(0600), api.ErrPerm)
		c.wantWstat(t, "bob", bobs(0), aGroup("bob"), api.ErrGroup)
		if e := c.remove(t, "bob", bobs(0)); e != api.OK {
			t.Errorf("Remove: %d", e)
		}
	}
}

// R3: a call hangs on nothing but what it is given: asked again, ahead of others or behind them, it answers the same, and the table stays as it was.
func TestSameAgain(t *testing.T) {
	rnd := rand.New(rand.NewSource(9))
	c := newCourt(t)
	was := c.u.Text()
	type question struct {
		user string
		f    api.Facts
		mode uint8
		want api.Stat
	}
	type answer struct {
		rights       uint8
		made, turned api.Node
		errs         [5]api.Errno
	}
	ask := func(u *users.Table, q question) (a answer) {
		a.rights = rules.Rights(u, q.user, q.f.Node)
		a.errs[0] = rules.Step(u, q.user, q.f.Node)
		a.errs[1] = rules.Open(u, q.user, q.f, q.mode)
		a.made, a.errs[2] = rules.Create(u, q.user, q.f, "x", q.f.Parent.Mode, q.mode)
		a.errs[3] = rules.Remove(u, q.user, q.f)
		a.turned, a.errs[4] = rules.Wstat(u, q.user, q.f, q.want)
		return a
	}
	var asked []question
	var told []answer
	for range 2000 {
		f := someFacts(rnd)
		q := question{someUser(rnd), f, someOpening(rnd), someWant(rnd, f.Node)}
		asked, told = append(asked, q), append(told, ask(c.u, q))
	}
	other := newTable(t, people()) // who there is counts, not which object says so
	for i := range slices.Backward(asked) {
		if again := ask(c.u, asked[i]); again != told[i] {
			t.Fatalf("%s: %s, ahead of it %s", shown(asked[i]), shown(again), shown(told[i]))
		}
		if again := ask(other, asked[i]); again != told[i] {
			t.Fatalf("%s of another table: %s, want %s", shown(asked[i]), shown(again), shown(told[i]))
		}
	}
	if c.u.Text() != was {
		t.Error("the table is another one")
	}
}

// Nothing is kept in common from call to call: goroutines that each have a table of their own do not disturb one another.
func TestApart(t *testing.T) {
	var all sync.WaitGroup
	for seed := range int64(4) {
		c := newCourt(t)
		all.Go(func() {
			rnd := rand.New(rand.NewSource(seed))
			for range 2000 {
				user, f := someUser(rnd), someFacts(rnd)
				want := someWant(rnd, f.Node)
				n, e := rules.Wstat(c.u, user, f, want)
				if is, isErr := (model{c.l, user}).wstat(f, want); n != is || e != isErr {
					t.Errorf("Wstat(%q, %s, %s): %s, %d; want %s, %d", user, shown(f), shown(want), shown(n), e, shown(is), isErr)
				}
			}
		})
	}
	all.Wait()
}

// R4: nothing goes on when a call has answered.
func TestNoGoroutines(t *testing.T) {
	was := runtime.NumGoroutine()
	c := newCourt(t)
	c.open(t, "bob", bobs(0640), 1)
	c.create(t, "bob", into(0755), "x", 0644, 0)
	c.remove(t, "bob", bobs(0))
	c.wantWstat(t, "bob", bobs(0), aName("m"), api.OK)
	if n := runtime.NumGoroutine(); n > was {
		t.Errorf("%d goroutines more", n-was)
	}
}
