package rules_test

import (
	"math"
	"testing"

	"verger/api"
)

// Who may write the directory may remove what is in it, whatever rights that has, and however often it is open.
func TestRemove(t *testing.T) {
	c := newCourt(t)
	for right := range uint32(8) {
		for _, shift := range []uint32{0, 3, 6} {
			for _, kind := range []uint32{0, exclBit, dirBit} {
				for _, user := range everybody() {
					f := bobs(kind)
					f.Node.Opens, f.Parent.Mode = 1, dirBit|right<<shift
					c.remove(t, user, f)
				}
			}
		}
	}
	for mode, want := range map[uint32]api.Errno{0200: api.OK, 0020: api.OK, 0002: api.OK, 0: api.ErrPerm, 0555: api.ErrPerm} {
		f := bobs(0)
		f.Parent.Mode = dirBit | mode
		if e := c.remove(t, "bob", f); e != want {
			t.Errorf("in %o: %d, want %d", mode, e, want)
		}
		f.Node.Mode = 0777
		if e := c.remove(t, "bob", f); e != want {
			t.Errorf("777 in %o: %d, want %d", mode, e, want)
		}
	}
}

// The root stays, whoever asks.
func TestRemoveRoot(t *testing.T) {
	c := newCourt(t)
	root := api.Node{Path: 1, Parent: 1, Name: "/", Uid: "bob", Gid: "sys", Mode: dirBit | 0777}
	for _, mode := range []uint32{dirBit | 0777, 0777} {
		for _, kids := range []int{0, 3} {
			root.Mode, root.Kids = mode, kids
			if e := c.remove(t, "bob", api.Facts{Node: root, Parent: root}); e != api.ErrPerm {
				t.Errorf("%s: %d", shown(root), e)
			}
		}
	}
	f := bobs(0)
	f.Parent, f.Node.Parent = root, 1
	if e := c.remove(t, "bob", f); e != api.OK {
		t.Errorf("out of the root: %d", e)
	}
}

// A directory must be empty; of a file its Kids say nothing.
func TestRemoveKids(t *testing.T) {
	c := newCourt(t)
	for kids, want := range map[int]api.Errno{0: api.OK, 1: api.ErrNotEmpty, math.MaxInt: api.ErrNotEmpty, -1: api.OK, math.MinInt: api.OK} {
		f := bobs(dirBit)
		f.Node.Kids = kids
		if e := c.remove(t, "bob", f); e != want {
			t.Errorf("kids %d: %d, want %d", kids, e, want)
		}
		if want != api.OK {
			if e := c.remove(t, "eve", f); e != api.ErrPerm {
				t.Errorf("kids %d, eve: %d", kids, e)
			}
		}
		f.Node.Mode = ^uint32(dirBit)
		if e := c.remove(t, "bob", f); e != api.OK {
			t.Errorf("kids %d of a file: %d", kids, e)
		}
	}
}
