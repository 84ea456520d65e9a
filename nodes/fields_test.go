package nodes_test

import (
	"math"
	"strings"
	"testing"

	"verger/api"
)

func setting(path uint64, mask api.Mask, n api.Node) api.Op {
	return api.Op{Kind: api.OpSet, Path: path, Mask: mask, Node: n}
}

func opening(path uint64, n int) api.Op { return api.Op{Kind: api.OpOpens, Path: path, N: n} }

// other is a node that is unlike each of those that are made here in all that a mask can name.
func other(mode uint32) api.Node {
	return api.Node{Path: 1, Parent: 9, Name: "other", Mode: mode, Uid: "u", Gid: "g", Muid: "m", Atime: 91, Mtime: 92, Vers: 93, Length: 94, Opens: 95, Kids: 96}
}

// Every mask, of a file, of a directory and of the root: what it names is set, and nothing else.
func TestSetMasks(t *testing.T) {
	for mask := range 256 {
		p := newPair(t, 5)
		p.wantDo(t, making(1, "d", aDir), 2)
		p.wantDo(t, making(1, "f", aFile), 3)
		for path, mode := range map[uint64]uint32{1: 0xe4000033, 2: 0xc00001ff, 3: 0x64000044} {
			o := setting(path, api.Mask(mask), other(mode))
			if mask > 127 {
				p.wantRefused(t, o, api.ErrArg)
				continue
			}
			was, _ := p.s.Node(path)
			p.wantDo(t, o, path)
			is, _ := p.s.Node(path)
			for _, f := range []struct {
				mask         api.Mask
				is, was, set any
			}{
				{api.MaskMode, is.Mode, was.Mode, mode}, {api.MaskUid, is.Uid, was.Uid, "u"}, {api.MaskGid, is.Gid, was.Gid, "g"}, {api.MaskMuid, is.Muid, was.Muid, "m"},
				{api.MaskAtime, is.Atime, was.Atime, uint32(91)}, {api.MaskMtime, is.Mtime, was.Mtime, uint32(92)}, {api.MaskBump, is.Vers, was.Vers, was.Vers + 1},
			} {
				want := f.was
				if api.Mask(mask)&f.mask != 0 {
					want = f.set
				}
				if f.is != want {
					t.Errorf("mask %d of %d: %v where %v should stand", mask, path, f.is, want)
				}
			}
		}
		p.wantSame(t)
	}
}

// What may not be is refused where it is named, and not looked at where it is not.
func TestSetRefused(t *testing.T) {
	p := newPair(t, 5)
	p.wantDo(t, making(1, "d", aDir), 2)
	p.wantDo(t, making(1, "f", aFile), 3)
	all := api.Mask(127)
	for _, user := range []string{"\x00", "\xff", "a\x00b", strings.Repeat("x", 33), strings.Repeat("é", 17)} {
		for mask, change := range map[api.Mask]func(*api.Node){
			api.MaskUid: func(n *api.Node) { n.Uid = user }, api.MaskGid: func(n *api.Node) { n.Gid = user }, api.MaskMuid: func(n *api.Node) { n.Muid = user },
		} {
			n := other(aFile)
			change(&n)
			p.wantRefused(t, setting(3, mask, n), api.ErrArg)
			p.wantRefused(t, setting(3, all, n), api.ErrArg)
			p.wantRefused(t, setting(2, all, n), api.ErrArg) // the kind is wrong, too
			p.wantDo(t, setting(3, all&^mask, n), 3)
			p.wantRefused(t, setting(4, mask, n), api.ErrNodeNone)
		}
	}
	for bit := range 32 {
		if isMode(1 << bit) {
			continue
		}
		for path, dir := range map[uint64]uint32{1: dirBit, 2: dirBit, 3: 0} {
			p.wantRefused(t, setting(path, api.MaskMode, other(dir|1<<bit)), api.ErrArg)
			p.wantRefused(t, setting(path, api.MaskMode, other(dir^dirBit|1<<bit)), api.ErrArg)
			p.wantDo(t, setting(path, all&^api.MaskMode, other(dir|1<<bit)), path)
		}
	}
	for path, mode := range map[uint64]uint32{1: 0755, 2: 0, 3: dirBit} {
		p.wantRefused(t, setting(path, api.MaskMode, other(mode)), api.ErrNodeKind)
		p.wantRefused(t, setting(path, all, other(mode)), api.ErrNodeKind)
		p.wantRefused(t, setting(path, 128|api.MaskMode, other(mode)), api.ErrArg)
		p.wantDo(t, setting(path, all&^api.MaskMode, other(mode)), path)
	}
	p.wantSame(t)
}

// Users' names that may be, the empty one too.
func TestSetUsers(t *testing.T) {
	p := newPair(t, 5)
	for _, user := range []string{"", "a", "a b", ":/#", "é", "\n", strings.Repeat("x", 32), strings.Repeat("é", 16)} {
		p.wantDo(t, setting(1, api.MaskUid|api.MaskGid|api.MaskMuid, api.Node{Uid: user, Gid: user, Muid: user}), 1)
		if n, _ := p.s.Node(1); n.Uid != user || n.Gid != user || n.Muid != user {
			t.Errorf("%q: %+v", user, n)
		}
	}
	p.wantSame(t)
}

// An operation that names nothing changes nothing.
func TestSetNothing(t *testing.T) {
	p := newPair(t, 5)
	was := allOf(p.s)
	p.wantDo(t, setting(1, 0, other(1<<27)), 1)
	wantAll(t, allOf(p.s), was)
}

// Versions go up one by one. (What comes behind the greatest one: see inside_test.go.)
func TestBump(t *testing.T) {
	p := newPair(t, 5)
	for range 1000 {
		p.do(t, setting(1, api.MaskBump, other(0)))
	}
	if n, _ := p.s.Node(1); n.Vers != 1000 {
		t.Errorf("Vers %d", n.Vers)
	}
	p.wantSame(t)
}

func TestOpens(t *testing.T) {
	p := newPair(t, 5)
	p.wantDo(t, making(1, "f", aFile), 2)
	for _, path := range []uint64{1, 2} {
		p.wantRefused(t, opening(path, -1), api.ErrNodeOpens) // the chapter's example 5
		p.wantDo(t, opening(path, 0), path)
		p.wantDo(t, opening(path, 3), path)
		p.wantDo(t, opening(path, -2), path)
		for _, n := range []int{-2, -3, math.MinInt32, math.MinInt64, math.MinInt64 + 1, math.MaxInt32, math.MaxInt32 + 1, math.MaxInt64, math.MaxInt64 - 1} {
			p.wantRefused(t, opening(path, n), api.ErrNodeOpens)
		}
		p.wantDo(t, opening(path, 2147483646), path)
		for _, n := range []int{1, 2, math.MaxInt32, math.MaxInt64, math.MinInt64} {
			p.wantRefused(t, opening(path, n), api.ErrNodeOpens)
		}
		if n, _ := p.s.Node(path); n.Opens != 2147483647 {
			t.Errorf("Opens %d", n.Opens)
		}
		p.wantDo(t, opening(path, 0), path)
		p.wantDo(t, opening(path, -2147483647), path)
		p.wantRefused(t, opening(path, -1), api.ErrNodeOpens)
		p.wantDo(t, opening(path, 2147483647), path)
		p.wantDo(t, opening(path, -2147483646), path)
	}
	p.wantRefused(t, opening(3, 1), api.ErrNodeNone)
	p.wantRefused(t, opening(0, -1), api.ErrNodeNone)
	p.wantSame(t)
}
