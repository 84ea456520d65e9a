package rules_test

import (
	"testing"

	"verger/api"
	"verger/rules"
)

// The chapter's example 1.
func TestRightsExample(t *testing.T) {
	c := newCourt(t)
	n, m := api.Node{Uid: "bob", Gid: "sys", Mode: 0640}, api.Node{Uid: "eve", Gid: "sys", Mode: 0046}
	for _, x := range []struct {
		user string
		n    api.Node
		want uint8
	}{{"bob", n, 6}, {"glenda", n, 0}, {"eve", n, 0}, {"bob", m, 6}, {"eve", m, 6}} {
		if got := c.rights(t, x.user, x.n); got != x.want {
			t.Errorf("Rights(%s, %o): %d, want %d", x.user, x.n.Mode, got, x.want)
		}
	}
}

func everybody() []string {
	return []string{"glenda", "sys", "bob", "eve", "adm", "led", "none", "nobody", "ADM", "bo", "bobb", ""}
}

// All rights, for everybody, of whatever owner and group: each class of a user gives its own, and none takes any away.
func TestRights(t *testing.T) {
	c := newCourt(t)
	for perm := range uint32(01000) {
		for _, user := range everybody() {
			for _, owner := range []string{user, "bob", "nobody", ""} {
				for _, group := range everybody() {
					c.rights(t, user, api.Node{Uid: owner, Gid: group, Mode: perm})
				}
			}
		}
	}
}

// A class by itself: an owner need not be known; a group is one to which a user belongs, by its own name too, and not by leading it, nor by a group within it.
func TestClasses(t *testing.T) {
	c := newCourt(t)
	for _, x := range []struct {
		user, uid, gid string
		want           uint8
	}{
		{"nobody", "nobody", "sys", 04}, {"", "", "", 04}, {"bob", "bob", "bob", 06}, {"nobody", "bob", "nobody", 00}, {"", "bob", "", 00},
		{"bob", "eve", "sys", 02}, {"sys", "eve", "sys", 02}, {"glenda", "eve", "sys", 00}, {"sys", "eve", "none", 00}, {"bob", "eve", "none", 00},
		{"eve", "bob", "led", 02}, {"glenda", "bob", "led", 02}, {"bob", "bo", "led", 00}, {"bo", "bob", "sys", 00},
	} {
		if got := c.rights(t, x.user, api.Node{Uid: x.uid, Gid: x.gid, Mode: 0420}); got != x.want {
			t.Errorf("Rights(%q) of %q, %q: %d, want %d", x.user, x.uid, x.gid, got, x.want)
		}
		if got := c.rights(t, x.user, api.Node{Uid: x.uid, Gid: x.gid, Mode: 0421}); got != x.want|1 {
			t.Errorf("Rights(%q) of %q, %q with one for all: %d, want %d", x.user, x.uid, x.gid, got, x.want|1)
		}
	}
}

// Nothing but a mode's nine bits, the owner and the group is looked at.
func TestRightsAlone(t *testing.T) {
	c := newCourt(t)
	for bit := 9; bit < 32; bit++ {
		for _, user := range everybody() {
			if got := c.rights(t, user, api.Node{Uid: "bob", Gid: "adm", Mode: 1 << bit}); got != 0 {
				t.Errorf("Rights(%q) of the bit %d: %d", user, bit, got)
			}
			n := api.Node{Uid: "bob", Gid: "adm", Mode: 0421}
			m := api.Node{Path: 1, Parent: 1, Name: user, Uid: "bob", Gid: "adm", Muid: user, Mode: 1<<bit | 0421, Atime: 1, Mtime: 1, Vers: 1, Length: 1, Opens: 1, Kids: 1}
			if a, b := c.rights(t, user, n), c.rights(t, user, m); a != b {
				t.Errorf("Rights(%q) of %s: %d, want %d", user, shown(m), b, a)
			}
		}
	}
}

// All modes of opening, the chapter's example 2 among them.
func TestWants(t *testing.T) {
	for mode := range 256 {
		want, wantErr := wants(uint8(mode)), api.OK
		if want < 0 {
			want, wantErr = 0, api.ErrMode
		}
		if got, e := rules.Wants(uint8(mode)); int(got) != want || e != wantErr {
			t.Errorf("Wants(%x): %d, %d; want %d, %d", mode, got, e, want, wantErr)
		}
	}
	for mode, want := range map[uint8]uint8{0x12: 6, 3: 1, 4: 0} {
		if got, e := rules.Wants(mode); got != want || (e == api.OK) != (mode != 4) {
			t.Errorf("Wants(%x): %d, %d", mode, got, e)
		}
	}
}

// Each set of up to three bits, with the rights and without.
func TestPerm(t *testing.T) {
	wantPerm := func(perm uint32) {
		want := api.OK
		if badPerm(perm) {
			want = api.ErrMode
		}
		if e := rules.Perm(perm); e != want {
			t.Fatalf("Perm(%x): %d, want %d", perm, e, want)
		}
	}
	for a := range 32 {
		for b := range 32 {
			for c := range 32 {
				for _, rights := range []uint32{0, 0777, 0640} {
					wantPerm(1<<a | 1<<b | 1<<c | rights)
				}
			}
		}
	}
	wantPerm(0)
	wantPerm(^uint32(0))
}

// What may be and what may not, by the chapter's own words.
func TestPermKinds(t *testing.T) {
	for _, perm := range []uint32{0, 0777, dirBit, appendBit, exclBit, tmpBit, dirBit | tmpBit | 0755, appendBit | exclBit | tmpBit | 0777} {
		if e := rules.Perm(perm); e != api.OK {
			t.Errorf("Perm(%x): %d", perm, e)
		}
	}
	for _, perm := range []uint32{01000, authBit, 0x10000000, 0x02000000, dirBit | appendBit, dirBit | exclBit, dirBit | appendBit | exclBit | 0777, dirBit | tmpBit | exclBit, dirBit | authBit} {
		if e := rules.Perm(perm); e != api.ErrMode {
			t.Errorf("Perm(%x): %d", perm, e)
		}
	}
}

// Who may go through a directory may look up a name in it; in a file nobody may.
func TestStep(t *testing.T) {
	c := newCourt(t)
	for perm := range uint32(01000) {
		for _, kind := range []uint32{0, dirBit, appendBit, tmpBit, ^uint32(dirBit | 0777), ^uint32(0777)} {
			for _, user := range []string{"bob", "glenda", "eve", "nobody"} {
				c.step(t, user, api.Node{Path: 1, Uid: "bob", Gid: "led", Mode: kind | perm})
			}
		}
	}
	dir := api.Node{Uid: "bob", Gid: "sys", Mode: dirBit | 0666}
	for _, user := range []string{"bob", "eve"} {
		if e := c.step(t, user, dir); e != api.ErrPerm {
			t.Errorf("%s through 666: %d", user, e)
		}
	}
	for mode, want := range map[uint32]api.Errno{0700: api.ErrNotDir, 0: api.ErrNotDir, dirBit | 0100: api.OK, dirBit | 0677: api.OK, dirBit | 0676: api.OK, dirBit | 0660: api.ErrPerm} {
		if e := c.step(t, "bob", api.Node{Uid: "bob", Gid: "sys", Mode: mode}); e != want {
			t.Errorf("bob through %x: %d, want %d", mode, e, want)
		}
	}
}
