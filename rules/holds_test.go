package rules_test

import (
	"math/rand"
	"testing"

	"verger/api"
	"verger/rules"
	"verger/stat"
)

// The chapter's section "What holds": for nodes and users of all kinds.

const holdsRounds = 40000

// All calls answer as the model, and each error is told often enough to have been held to it.
func TestLikeTheModel(t *testing.T) {
	rnd := rand.New(rand.NewSource(1))
	c := newCourt(t)
	told := map[string]map[api.Errno]int{"step": {}, "open": {}, "create": {}, "remove": {}, "wstat": {}}
	for range holdsRounds {
		user, f := someUser(rnd), someFacts(rnd)
		c.rights(t, user, f.Node)
		told["step"][c.step(t, user, f.Node)]++
		told["open"][c.open(t, user, f, someOpening(rnd))]++
		_, e := c.create(t, user, f, oneOf(rnd, "x", someName(rnd)), someMode(rnd), someOpening(rnd))
		told["create"][e]++
		told["remove"][c.remove(t, user, f)]++
		_, e = c.wstat(t, user, f, someWant(rnd, f.Node))
		told["wstat"][e]++
		if got := rules.Record(f.Node); got != record(f.Node) {
			t.Fatalf("Record(%s): %s", shown(f.Node), shown(got))
		}
	}
	for call, errs := range map[string][]api.Errno{
		"step":   {api.OK, api.ErrNotDir, api.ErrPerm},
		"open":   {api.OK, api.ErrMode, api.ErrIsDir, api.ErrPerm, api.ErrExcl},
		"create": {api.OK, api.ErrNotDir, api.ErrName, api.ErrMode, api.ErrIsDir, api.ErrPerm, api.ErrExists, api.ErrNodeFull},
		"remove": {api.OK, api.ErrPerm, api.ErrNotEmpty},
		"wstat":  {api.OK, api.ErrWstat, api.ErrPerm, api.ErrMode, api.ErrIsDir, api.ErrBig, api.ErrName, api.ErrExists, api.ErrGroup},
	} {
		for _, e := range errs {
			if told[call][e] < 100 {
				t.Errorf("%s told error %d %d times", call, e, told[call][e])
			}
		}
	}
}

// Nobody gets more than their classes give: what may be opened is wanted of the rights.
func TestNoMoreThanClasses(t *testing.T) {
	rnd := rand.New(rand.NewSource(2))
	c := newCourt(t)
	opened := 0
	for range holdsRounds {
		user, f, mode := someUser(rnd), someFacts(rnd), someOpening(rnd)
		if c.open(t, user, f, mode) != api.OK {
			continue
		}
		opened++
		wants, e := rules.Wants(mode)
		if rights := rules.Rights(c.u, user, f.Node); e != api.OK || rights&wants != wants || wants == 0 {
			t.Fatalf("Open(%q, %s, %x): the rights %d, wanted %d", user, shown(f), mode, rights, wants)
		}
	}
	if opened < holdsRounds/100 {
		t.Errorf("opened %d times", opened)
	}
}

// With the rights of all classes empty nobody may do anything by rights: not the owner, not who leads the group.
func TestNoRights(t *testing.T) {
	rnd := rand.New(rand.NewSource(3))
	c := newCourt(t)
	for range holdsRounds {
		user, f := someUser(rnd), someFacts(rnd)
		f.Node.Mode &^= 0777
		f.Parent.Mode &^= 0777
		if c.rights(t, user, f.Node) != 0 || c.step(t, user, f.Node) == api.OK || c.open(t, user, f, someOpening(rnd)) == api.OK || c.remove(t, user, f) == api.OK || rules.Closes(c.u, user, f) {
			t.Fatalf("%q, %s: it may", user, shown(f))
		}
		if _, e := c.create(t, user, f, "x", someMode(rnd), someOpening(rnd)); e == api.OK {
			t.Fatalf("%q, %s: it is made", user, shown(f))
		}
		want := someWant(rnd, f.Node)
		if _, e := c.wstat(t, user, f, want); e == api.OK && stat.Touched(want, rules.Record(f.Node))&(api.FieldLength|api.FieldName) != 0 {
			t.Fatalf("%q, %s: %s is done", user, shown(f), shown(want))
		}
	}
}

// More rights never refuse what fewer allow: to go through, to open, to make, to remove.
func TestMoreRights(t *testing.T) {
	rnd := rand.New(rand.NewSource(4))
	c := newCourt(t)
	for range holdsRounds {
		user, f, mode, perm := someUser(rnd), someFacts(rnd), someOpening(rnd), someMode(rnd)
		more := f
		more.Node.Mode |= rnd.Uint32() & 0777
		more.Parent.Mode |= rnd.Uint32() & 0777
		fewer := rules.Rights(c.u, user, f.Node)
		if fewer&^rules.Rights(c.u, user, more.Node) != 0 {
			t.Fatalf("%q: %s gives less than %s", user, shown(more.Node), shown(f.Node))
		}
		_, made := c.create(t, user, f, "x", perm, mode)
		_, madeMore := c.create(t, user, more, "x", perm, mode)
		for _, x := range []struct{ fewer, more api.Errno }{
			{c.step(t, user, f.Node), c.step(t, user, more.Node)}, {c.open(t, user, f, mode), c.open(t, user, more, mode)}, {c.remove(t, user, f), c.remove(t, user, more)}, {made, madeMore},
		} {
			if x.fewer == api.OK && x.more != api.OK {
				t.Fatalf("%q: %s is refused by %d, %s is not", user, shown(more), x.more, shown(f))
			}
		}
	}
}

// A change that touches nothing is never refused, and changes nothing, whoever asks for it; nor does what a change gave, once more.
func TestWstatOnceMore(t *testing.T) {
	rnd := rand.New(rand.NewSource(5))
	c := newCourt(t)
	changed := 0
	for range holdsRounds {
		user, f := someUser(rnd), someFacts(rnd)
		for _, want := range []api.Stat{rules.Record(f.Node), stat.Keep(), stat.Over(stat.Keep(), rules.Record(f.Node))} {
			if n, e := c.wstat(t, user, f, want); n != f.Node || e != api.OK {
				t.Fatalf("%q, %s, %s: %s, %d", user, shown(f), shown(want), shown(n), e)
			}
		}
		n, e := c.wstat(t, user, f, someWant(rnd, f.Node))
		if e != api.OK {
			continue
		}
		if n != f.Node {
			changed++
		}
		f.Node = n
		if again, e := c.wstat(t, user, f, rules.Record(n)); again != n || e != api.OK {
			t.Fatalf("%q, %s once more: %s, %d", user, shown(f), shown(again), e)
		}
	}
	if changed < holdsRounds/100 {
		t.Errorf("changed %d times", changed)
	}
}

// Of a change nothing comes but what was asked for: the record of what it gives is the old one with the change over it.
func TestWstatIsTheChange(t *testing.T) {
	rnd := rand.New(rand.NewSource(6))
	c := newCourt(t)
	for range holdsRounds {
		user, f := someUser(rnd), someFacts(rnd)
		want := someWant(rnd, f.Node)
		n, e := c.wstat(t, user, f, want)
		if e != api.OK {
			continue
		}
		is := stat.Over(want, rules.Record(f.Node))
		is.Qid.Kind = uint8(n.Mode >> 24)
		if got := rules.Record(n); got != is {
			t.Fatalf("%q, %s, %s: %s, want %s", user, shown(f), shown(want), shown(got), shown(is))
		}
	}
}

// Who made a file owns it; and it has no right to read or write that the directory has not, a directory no right at all.
func TestMadeByItsOwner(t *testing.T) {
	rnd := rand.New(rand.NewSource(7))
	c := newCourt(t)
	made := 0
	for range holdsRounds {
		user, f, perm := someUser(rnd), someFacts(rnd), someMode(rnd)
		n, e := c.create(t, user, f, "x", perm, someOpening(rnd))
		if e != api.OK {
			continue
		}
		made++
		over := n.Mode & 0777 &^ f.Node.Mode
		if n.Uid != user || over&0666 != 0 || n.Mode >= dirBit && over != 0 || n.Mode&^perm != 0 || n.Mode&^0777 != perm&^0777 {
			t.Fatalf("%q, %s, %x: %s", user, shown(f), perm, shown(n))
		}
		if owner := rules.Rights(c.u, user, n); owner < uint8(n.Mode>>6&7) {
			t.Fatalf("%q has the rights %d of %s", user, owner, shown(n))
		}
	}
	if made < holdsRounds/200 {
		t.Errorf("made %d times", made)
	}
}
