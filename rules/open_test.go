package rules_test

import (
	"math"
	"testing"

	"verger/api"
)

// bobs is a file or a directory of bob's, in a directory of bob's; both are of the group sys.
func bobs(mode uint32) api.Facts {
	return api.Facts{
		Node:   api.Node{Path: 5, Parent: 2, Name: "n", Uid: "bob", Gid: "sys", Muid: "eve", Mode: mode, Atime: 4, Mtime: 7, Vers: 3, Length: 10},
		Parent: api.Node{Path: 2, Parent: 1, Name: "d", Uid: "bob", Gid: "sys", Mode: dirBit | 0755, Kids: 1},
	}
}

// The chapter's example 2.
func TestOpenExample(t *testing.T) {
	c := newCourt(t)
	if e := c.open(t, "bob", bobs(0640), 0x11); e != api.OK {
		t.Errorf("bob: %d", e)
	}
	if e := c.open(t, "eve", bobs(0640), 0); e != api.ErrPerm {
		t.Errorf("eve: %d", e)
	}
}

// All modes of opening, by all rights that somebody may have.
func TestOpen(t *testing.T) {
	c := newCourt(t)
	for mode := range 256 {
		for right := range uint32(8) {
			for _, kind := range []uint32{0, appendBit, exclBit, dirBit, dirBit | tmpBit} {
				for _, up := range []uint32{0, 5, 2, 7} {
					f := bobs(kind | right<<6)
					f.Parent.Mode = dirBit | up<<6
					c.open(t, "bob", f, uint8(mode))
					f.Node.Mode, f.Parent.Mode = kind|right<<3, dirBit|up<<3
					c.open(t, "bob", f, uint8(mode))
					c.open(t, "glenda", f, uint8(mode))
					f.Node.Opens = 1
					c.open(t, "sys", f, uint8(mode))
					f.Node.Mode, f.Parent.Mode = kind|right, dirBit|up
					c.open(t, "nobody", f, uint8(mode))
				}
			}
		}
	}
}

// A directory is opened for reading and nothing else; each of the other bits is too much.
func TestOpenDirectory(t *testing.T) {
	c := newCourt(t)
	for mode := range 256 {
		want := api.ErrIsDir
		switch {
		case mode == 0:
			want = api.OK
		case wants(uint8(mode)) < 0:
			want = api.ErrMode
		}
		if e := c.open(t, "bob", bobs(dirBit|0777), uint8(mode)); e != want {
			t.Errorf("mode %x: %d, want %d", mode, e, want)
		}
	}
	if e := c.open(t, "bob", bobs(dirBit|0333), 0); e != api.ErrPerm {
		t.Errorf("without the right to read: %d", e)
	}
}

// Whose file is to go with the fid must be able to write the directory that has it; who opens it otherwise need not.
func TestOpenRclose(t *testing.T) {
	c := newCourt(t)
	f := bobs(0777)
	for mode, want := range map[uint8]api.Errno{0x40: api.ErrPerm, 0x41: api.ErrPerm, 0x53: api.ErrPerm, 0: api.OK, 0x13: api.OK} {
		f.Parent.Mode = dirBit | 0555
		if e := c.open(t, "bob", f, mode); e != want {
			t.Errorf("mode %x: %d, want %d", mode, e, want)
		}
		f.Parent.Mode = dirBit | 0200
		if e := c.open(t, "bob", f, mode); e != api.OK {
			t.Errorf("mode %x: %d, want OK", mode, e)
		}
	}
}

// A file in exclusive use is open once; how often any other one is does not matter.
func TestOpenExclusive(t *testing.T) {
	c := newCourt(t)
	for opens, want := range map[int]api.Errno{0: api.OK, 1: api.ErrExcl, 2: api.ErrExcl, math.MaxInt: api.ErrExcl, -1: api.OK, math.MinInt: api.OK} {
		f := bobs(exclBit | 0600)
		f.Node.Opens = opens
		if e := c.open(t, "bob", f, 2); e != want {
			t.Errorf("opens %d: %d, want %d", opens, e, want)
		}
		f = bobs(appendBit | tmpBit | 0600)
		f.Node.Opens, f.Parent.Opens = opens, opens
		f.Parent.Mode |= exclBit
		if e := c.open(t, "bob", f, 2); e != api.OK {
			t.Errorf("opens %d of another file: %d", opens, e)
		}
	}
}

// Where several errors apply, the one named first is told.
func TestOpenOrder(t *testing.T) {
	c := newCourt(t)
	dir := bobs(dirBit | exclBit)
	dir.Node.Opens, dir.Parent.Mode = 1, dirBit
	file := dir
	file.Node.Mode = exclBit
	allowed := file
	allowed.Node.Mode = exclBit | 0777
	free := allowed
	free.Parent.Mode = dirBit | 0777
	for _, x := range []struct {
		f    api.Facts
		mode uint8
		want api.Errno
	}{
		{dir, 0x44, api.ErrMode}, {dir, 0x41, api.ErrIsDir}, {dir, 0, api.ErrPerm}, {file, 0x41, api.ErrPerm}, {allowed, 0x41, api.ErrPerm}, {allowed, 0x01, api.ErrExcl}, {free, 0x41, api.ErrExcl},
	} {
		if e := c.open(t, "bob", x.f, x.mode); e != x.want {
			t.Errorf("%s, mode %x: %d, want %d", shown(x.f), x.mode, e, x.want)
		}
	}
}

// What is said of new names and of room is nothing to who opens or removes.
func TestOpenLooksAtNoMore(t *testing.T) {
	c := newCourt(t)
	f := bobs(0600)
	f.Taken, f.Full, f.Node.Kids, f.Parent.Opens = true, true, 3, 3
	if e := c.open(t, "bob", f, 0x42); e != api.OK {
		t.Errorf("Open: %d", e)
	}
	if e := c.remove(t, "bob", f); e != api.OK {
		t.Errorf("Remove: %d", e)
	}
}
