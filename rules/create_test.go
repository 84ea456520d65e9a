package rules_test

import (
	"strings"
	"testing"

	"verger/api"
	"verger/nodes"
)

// into is a directory of bob's, in which something is to be made.
func into(mode uint32) api.Facts {
	return api.Facts{Node: api.Node{Path: 9, Parent: 4, Name: "d", Uid: "bob", Gid: "sys", Muid: "eve", Mode: dirBit | mode, Atime: 1, Mtime: 2, Vers: 3, Length: 4, Opens: 5, Kids: 6}}
}

// The chapter's example 3, and what comes out whole.
func TestCreateExample(t *testing.T) {
	c := newCourt(t)
	for _, x := range []struct{ dir, perm, want uint32 }{
		{0755, 0777, 0755}, {0755, dirBit | 0777, dirBit | 0755}, {0700, 0666, 0600}, {0700, 0777, 0711},
	} {
		n, e := c.create(t, "bob", into(x.dir), "x", x.perm, 0)
		want := api.Node{Parent: 9, Name: "x", Mode: x.want, Uid: "bob", Gid: "sys", Muid: "bob"}
		if n != want || e != api.OK {
			t.Errorf("%o in %o: %s, %d; want %s", x.perm, x.dir, shown(n), e, shown(want))
		}
	}
}

// All rights in all directories, of a file and of a directory.
func TestCreateRights(t *testing.T) {
	c := newCourt(t)
	for dir := range uint32(01000) {
		for perm := range uint32(01000) {
			for _, kind := range []uint32{0, dirBit, appendBit | exclBit | tmpBit, dirBit | tmpBit} {
				c.create(t, "bob", into(dir), "x", kind|perm, 0)
			}
		}
	}
}

// Of the directory's mode nothing but the rights is looked at: a temporary one makes nothing temporary.
func TestCreateKinds(t *testing.T) {
	c := newCourt(t)
	for bit := 9; bit < 32; bit++ {
		for _, perm := range []uint32{0, tmpBit, appendBit, exclBit, dirBit, dirBit | tmpBit} {
			n, e := c.create(t, "bob", into(1<<bit|0777), "x", perm|0640, 0)
			if n.Mode != perm|0640 || e != api.OK {
				t.Errorf("%x in a directory with the bit %d: %x, %d", perm|0640, bit, n.Mode, e)
			}
		}
	}
}

// Whoever makes something owns it; the group stays the directory's.
func TestCreateOwner(t *testing.T) {
	c := newCourt(t)
	for _, user := range everybody() {
		n, e := c.create(t, user, into(0757), "x", 0666, 2)
		if user == "bob" || user == "sys" {
			n, e = c.create(t, user, into(0777), "x", 0666, 2)
		}
		if e != api.OK || n.Uid != user || n.Muid != user || n.Gid != "sys" {
			t.Errorf("%q: %s, %d", user, shown(n), e)
		}
	}
}

// What may be written by its owner, its group, by all.
func TestCreateMayWrite(t *testing.T) {
	c := newCourt(t)
	for mode, who := range map[uint32]string{0200: "bob", 0020: "bob sys", 0002: "bob sys eve glenda nobody", 0: "", 0555: "", 0575: "bob sys"} {
		for _, user := range []string{"bob", "sys", "eve", "glenda", "nobody"} {
			want := api.ErrPerm
			if strings.Contains(who, user) {
				want = api.OK
			}
			if _, e := c.create(t, user, into(mode), "x", 0, 0); e != want {
				t.Errorf("%s in %o: %d, want %d", user, mode, e, want)
			}
		}
	}
}

// All modes of opening, with a file and with a directory.
func TestCreateModes(t *testing.T) {
	c := newCourt(t)
	for mode := range 256 {
		bad := wants(uint8(mode)) < 0
		for _, perm := range []uint32{0644, dirBit | 0755} {
			want := api.OK
			switch {
			case bad:
				want = api.ErrMode
			case perm >= dirBit && mode != 0:
				want = api.ErrIsDir
			}
			if _, e := c.create(t, "bob", into(0755), "x", perm, uint8(mode)); e != want {
				t.Errorf("%x, mode %x: %d, want %d", perm, mode, e, want)
			}
		}
	}
}

// Which perms may be: each bit, alone and together with ModeDir.
func TestCreatePerms(t *testing.T) {
	c := newCourt(t)
	for bit := range 32 {
		c.create(t, "bob", into(0755), "x", 1<<bit, 0)
		c.create(t, "bob", into(0755), "x", dirBit|1<<bit, 0)
	}
}

func TestCreateNames(t *testing.T) {
	c := newCourt(t)
	for _, name := range []string{"x", "...", "a b", "é", "\n", strings.Repeat("x", 255)} {
		if n, e := c.create(t, "bob", into(0755), name, 0, 0); n.Name != name || e != api.OK {
			t.Errorf("%q: %s, %d", name, shown(n), e)
		}
	}
	for _, name := range []string{"", ".", "..", "/", "a/b", "\x00", "\xff", strings.Repeat("x", 256), strings.Repeat("é", 128)} {
		if n, e := c.create(t, "bob", into(0755), name, 0, 0); n != (api.Node{}) || e != api.ErrName {
			t.Errorf("%q: %s, %d", name, shown(n), e)
		}
	}
}

// Where several errors apply, the one named first is told: of all that is wrong one after another is mended.
func TestCreateOrder(t *testing.T) {
	c := newCourt(t)
	f := into(0)
	f.Node.Mode, f.Taken, f.Full = 0, true, true
	name, perm, mode := "..", uint32(dirBit|exclBit), uint8(0x81)
	for i, step := range []struct {
		want api.Errno
		mend func()
	}{
		{api.ErrNotDir, func() { f.Node.Mode = dirBit }},
		{api.ErrName, func() { name = "x" }},
		{api.ErrMode, func() { perm = dirBit }},
		{api.ErrMode, func() { mode = 1 }},
		{api.ErrIsDir, func() { mode = 0 }},
		{api.ErrPerm, func() { f.Node.Mode = dirBit | 0200 }},
		{api.ErrExists, func() { f.Taken = false }},
		{api.ErrNodeFull, func() { f.Full = false }},
		{api.OK, func() {}},
	} {
		if _, e := c.create(t, "bob", f, name, perm, mode); e != step.want {
			t.Errorf("%d: %d, want %d", i, e, step.want)
		}
		step.mend()
	}
}

// The directory's parent does not matter, nor whether the directory is the root.
func TestCreateLooksAtNoMore(t *testing.T) {
	c := newCourt(t)
	f := into(0755)
	want, _ := c.create(t, "bob", f, "x", 0644, 1)
	f.Parent = api.Node{Path: 1, Uid: "eve", Mode: exclBit}
	f.Node.Opens, f.Node.Mode = 9, f.Node.Mode|exclBit
	if n, e := c.create(t, "bob", f, "x", 0644, 1); n != want || e != api.OK {
		t.Errorf("%s, %d", shown(n), e)
	}
	f.Node.Path = 1
	want.Parent = 1
	if n, e := c.create(t, "bob", f, "x", 0644, 1); n != want || e != api.OK {
		t.Errorf("in the root: %s, %d", shown(n), e)
	}
}

// What is made a store takes as it is.
func TestCreateForAStore(t *testing.T) {
	c := newCourt(t)
	s, e := nodes.New(api.Config{Nodes: 8, Perm: 0757, Owner: "bob", Group: "sys"})
	if e != api.OK {
		t.Fatal(e)
	}
	for i, perm := range []uint32{0666, dirBit | 0777, appendBit | exclBit | tmpBit | 0777} {
		root, _ := s.Node(api.RootPath)
		n, e := c.create(t, "eve", api.Facts{Node: root, Parent: root}, string(rune('a'+i)), perm, 0)
		if e != api.OK {
			t.Fatalf("Create %x: %d", perm, e)
		}
		path, e := s.Do(api.Op{Kind: api.OpMake, Path: api.RootPath, Node: n})
		n.Path = path
		if made, _ := s.Node(path); e != api.OK || made != n {
			t.Errorf("%x: made %s, %d; want %s", perm, shown(made), e, shown(n))
		}
	}
}
