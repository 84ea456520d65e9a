package rules_test

import (
	"math"
	"slices"
	"strings"
	"testing"

	"verger/api"
	"verger/rules"
	"verger/stat"
)

// with is a change that touches what turn says.
func with(turn func(*api.Stat)) api.Stat {
	want := keep()
	turn(&want)
	return want
}

func aMode(mode uint32) api.Stat  { return with(func(s *api.Stat) { s.Mode = mode }) }
func anMtime(at uint32) api.Stat  { return with(func(s *api.Stat) { s.Mtime = at }) }
func aLength(n uint64) api.Stat   { return with(func(s *api.Stat) { s.Length = n }) }
func aName(name string) api.Stat  { return with(func(s *api.Stat) { s.Name = name }) }
func aGroup(name string) api.Stat { return with(func(s *api.Stat) { s.Gid = name }) }

// wantWstat holds a change to the model, and to an error.
func (c court) wantWstat(t *testing.T, user string, f api.Facts, want api.Stat, wantErr api.Errno) {
	t.Helper()
	if _, e := c.wstat(t, user, f, want); e != wantErr {
		t.Errorf("Wstat(%.60q, %s, %s): %d, want %d", user, shown(f), shown(want), e, wantErr)
	}
}

// The chapter's example 4.
func TestWstatExample(t *testing.T) {
	c := newCourt(t)
	f := bobs(0640)
	c.wantWstat(t, "glenda", f, aMode(0600), api.OK)
	c.wantWstat(t, "bob", f, aLength(70000), api.ErrBig)
	c.wantWstat(t, "bob", f, aGroup("bob"), api.OK)
	c.wantWstat(t, "glenda", f, aGroup("bob"), api.ErrPerm)
}

// What is allowed is in the node that comes out, and all else is as it was.
func TestWstatSets(t *testing.T) {
	c := newCourt(t)
	f := bobs(0640)
	all := with(func(s *api.Stat) { s.Mode, s.Mtime, s.Length, s.Name, s.Gid = appendBit|0600, 99, 3, "m", "bob" })
	for _, x := range []struct {
		want api.Stat
		set  func(*api.Node)
	}{
		{keep(), func(n *api.Node) {}},
		{aMode(exclBit | 0777), func(n *api.Node) { n.Mode = exclBit | 0777 }},
		{aMode(0), func(n *api.Node) { n.Mode = 0 }},
		{anMtime(0), func(n *api.Node) { n.Mtime = 0 }},
		{anMtime(math.MaxUint32 - 1), func(n *api.Node) { n.Mtime = math.MaxUint32 - 1 }},
		{aLength(0), func(n *api.Node) { n.Length = 0 }},
		{aLength(65536), func(n *api.Node) { n.Length = 65536 }},
		{aName("m"), func(n *api.Node) { n.Name = "m" }},
		{aGroup("adm"), func(n *api.Node) { n.Gid = "adm" }},
		{all, func(n *api.Node) { n.Mode, n.Mtime, n.Length, n.Name, n.Gid = appendBit|0600, 99, 3, "m", "bob" }},
	} {
		is := f.Node
		x.set(&is)
		if n, e := c.wstat(t, "bob", f, x.want); n != is || e != api.OK {
			t.Errorf("%s: %s, %d; want %s", shown(x.want), shown(n), e, shown(is))
		}
	}
}

// fixed are the changes of each field that nobody may change.
func fixed() []func(*api.Stat) {
	return []func(*api.Stat){
		func(s *api.Stat) { s.Type = 1 }, func(s *api.Stat) { s.Dev = 1 }, func(s *api.Stat) { s.Qid.Kind = 0x08 }, func(s *api.Stat) { s.Qid.Vers = 4 }, func(s *api.Stat) { s.Qid.Path = 6 },
		func(s *api.Stat) { s.Atime = 5 }, func(s *api.Stat) { s.Uid = "eve" }, func(s *api.Stat) { s.Muid = "bob" },
	}
}

// What nobody may change nobody does: neither the owner, nor who leads the group, nor to another value, alone or with what is allowed.
func TestWstatFixed(t *testing.T) {
	c := newCourt(t)
	for _, turn := range fixed() {
		for _, user := range everybody() {
			for _, mode := range []uint32{0777, dirBit | 0777} {
				c.wantWstat(t, user, bobs(mode), with(turn), api.ErrWstat)
				if n, e := c.wstat(t, user, bobs(mode), with(func(s *api.Stat) { s.Name = "m"; turn(s) })); e == api.OK || n != (api.Node{}) {
					t.Errorf("%s: %s, %d", user, shown(n), e)
				}
			}
		}
	}
}

// Of the fields the first that is refused is told, whatever is wrong behind it: for each two of them.
func TestWstatOrder(t *testing.T) {
	c := newCourt(t)
	// In the record's order. (Of the mtime an owner is never refused.)
	wrongs := []struct {
		turn func(*api.Stat)
		want api.Errno
	}{
		{func(s *api.Stat) { s.Type = 1 }, api.ErrWstat}, {func(s *api.Stat) { s.Dev = 1 }, api.ErrWstat},
		{func(s *api.Stat) { s.Qid.Kind = 1 }, api.ErrWstat}, {func(s *api.Stat) { s.Qid.Vers = 1 }, api.ErrWstat}, {func(s *api.Stat) { s.Qid.Path = 1 }, api.ErrWstat},
		{func(s *api.Stat) { s.Mode = 01000 }, api.ErrMode}, {func(s *api.Stat) { s.Atime = 1 }, api.ErrWstat},
		{func(s *api.Stat) { s.Mtime = 1 }, api.OK}, {func(s *api.Stat) { s.Length = 70000 }, api.ErrBig}, {func(s *api.Stat) { s.Name = ".." }, api.ErrName},
		{func(s *api.Stat) { s.Uid = "eve" }, api.ErrWstat}, {func(s *api.Stat) { s.Gid = "nobody" }, api.ErrGroup}, {func(s *api.Stat) { s.Muid = "bob" }, api.ErrWstat},
	}
	for i, a := range wrongs {
		for _, b := range wrongs[i:] {
			want := a.want
			if want == api.OK {
				want = b.want
			}
			c.wantWstat(t, "bob", bobs(0777), with(func(s *api.Stat) { a.turn(s); b.turn(s) }), want)
		}
	}
	// Of who may not change the time that is named ahead of the length, and behind the atime.
	c.wantWstat(t, "eve", bobs(0777), with(func(s *api.Stat) { s.Mtime, s.Length = 1, 70000 }), api.ErrPerm)
	c.wantWstat(t, "eve", bobs(0777), with(func(s *api.Stat) { s.Mtime, s.Atime = 1, 1 }), api.ErrWstat)
	c.wantWstat(t, "eve", bobs(0777), with(func(s *api.Stat) { s.Mode, s.Atime = 0, 1 }), api.ErrPerm)
}

// Each field is asked by the node as it is, not as the other fields would make it.
func TestWstatAsItIs(t *testing.T) {
	c := newCourt(t)
	// Who makes it appending alone may shorten it in the same change; who makes it no more so may not.
	c.wantWstat(t, "bob", bobs(0600), with(func(s *api.Stat) { s.Mode, s.Length = appendBit|0600, 3 }), api.OK)
	c.wantWstat(t, "bob", bobs(appendBit|0600), with(func(s *api.Stat) { s.Mode, s.Length = 0600, 3 }), api.ErrWstat)
	// Rights that the change gives or takes do not matter.
	c.wantWstat(t, "bob", bobs(0400), with(func(s *api.Stat) { s.Mode, s.Length = 0600, 3 }), api.ErrPerm)
	c.wantWstat(t, "bob", bobs(0600), with(func(s *api.Stat) { s.Mode, s.Length = 0400, 3 }), api.OK)
	// Nor does the new group: who leads the old one alone may change the mode, and the rights are the old one's.
	f := bobs(0660)
	f.Node.Uid, f.Node.Gid = "bob", "adm"
	c.wantWstat(t, "bob", f, with(func(s *api.Stat) { s.Mode, s.Gid = 0640, "sys" }), api.OK)
	f = bobs(0060)
	f.Node.Gid = "bob"
	c.wantWstat(t, "bob", f, with(func(s *api.Stat) { s.Length, s.Gid = 3, "adm" }), api.OK)
	f.Node.Gid = "led"
	c.wantWstat(t, "bob", f, with(func(s *api.Stat) { s.Length, s.Gid = 3, "bob" }), api.ErrPerm)
}

// Whose it is, and who leads its group, change the mode and the time; rights are not asked.
func TestWstatGoverns(t *testing.T) {
	c := newCourt(t)
	for _, x := range []struct{ uid, gid, who string }{
		{"bob", "sys", "bob glenda"}, {"eve", "adm", "eve bob adm"}, {"eve", "led", "eve"}, {"bob", "led", "bob eve"}, {"bob", "none", "bob sys"},
		{"nobody", "nothing", "nobody"}, {"", "", ""}, {"bob", "", "bob"}, {"glenda", "glenda", "glenda"},
	} {
		for _, user := range everybody() {
			for _, mode := range []uint32{0, 0777, dirBit | 0777} {
				f := bobs(mode)
				f.Node.Uid, f.Node.Gid = x.uid, x.gid
				want := api.ErrPerm
				if user == x.uid || slices.Contains(strings.Fields(x.who), user) {
					want = api.OK
				}
				c.wantWstat(t, user, f, aMode(mode^0444), want)
				c.wantWstat(t, user, f, anMtime(8), want)
			}
		}
	}
}

// A mode must be one that may be, and a file stays a file, a directory a directory.
func TestWstatMode(t *testing.T) {
	c := newCourt(t)
	for bit := range 32 {
		for _, was := range []uint32{0640, dirBit | 0750, appendBit | exclBit | tmpBit, dirBit | tmpBit} {
			for _, more := range []uint32{0, 0777, dirBit, exclBit} {
				c.wstat(t, "bob", bobs(was), aMode(1<<bit|more))
				c.wstat(t, "eve", bobs(was), aMode(1<<bit|more))
			}
		}
	}
	c.wantWstat(t, "bob", bobs(0640), aMode(dirBit|0640), api.ErrMode)
	c.wantWstat(t, "bob", bobs(dirBit|0750), aMode(0750), api.ErrMode)
	c.wantWstat(t, "bob", bobs(dirBit|0750), aMode(dirBit|tmpBit|0700), api.OK)
	c.wantWstat(t, "bob", bobs(dirBit|0750), aMode(dirBit|exclBit), api.ErrMode)
	c.wantWstat(t, "bob", bobs(0640), aMode(authBit), api.ErrMode)
	c.wantWstat(t, "bob", bobs(0640), aMode(math.MaxUint32-1), api.ErrMode)
	c.wantWstat(t, "eve", bobs(0640), aMode(01000), api.ErrPerm)
	// A mode that may not be stays, if it is not touched; what is asked of it then is nothing.
	c.wantWstat(t, "eve", bobs(01000|authBit), aMode(01000|authBit), api.OK)
}

func TestWstatLength(t *testing.T) {
	c := newCourt(t)
	for n, want := range map[uint64]api.Errno{0: api.OK, 9: api.OK, 10: api.OK, 11: api.OK, 65536: api.OK, 65537: api.ErrBig, 1 << 40: api.ErrBig, math.MaxUint64 - 1: api.ErrBig, math.MaxUint64: api.OK} {
		c.wantWstat(t, "bob", bobs(0200), aLength(n), want)
		if want == api.OK && n < 10 {
			want = api.ErrWstat
		}
		c.wantWstat(t, "bob", bobs(appendBit|0200), aLength(n), want)
		if n == 10 || n == math.MaxUint64 {
			continue
		}
		for _, user := range []string{"eve", "glenda", "nobody"} {
			c.wantWstat(t, user, bobs(appendBit|0660), aLength(n), api.ErrPerm)
		}
		c.wantWstat(t, "bob", bobs(0555), aLength(n), api.ErrPerm)
		if n != 0 {
			c.wantWstat(t, "bob", bobs(dirBit|0777), aLength(n), api.ErrIsDir)
			c.wantWstat(t, "eve", bobs(dirBit|appendBit), aLength(n), api.ErrIsDir)
		}
	}
	c.wantWstat(t, "eve", bobs(0002), aLength(3), api.OK)
	c.wantWstat(t, "sys", bobs(0020), aLength(3), api.OK)
}

// A directory's record has the length 0, whatever stands in the node: that is what touches it or not, and it stays as it is.
func TestWstatDirectoryLength(t *testing.T) {
	c := newCourt(t)
	f := bobs(dirBit | 0777)
	for _, length := range []uint64{0, 10, math.MaxUint64} {
		f.Node.Length = length
		c.wantWstat(t, "eve", f, aLength(0), api.OK)
		c.wantWstat(t, "bob", f, aLength(10), api.ErrIsDir)
		if n, e := c.wstat(t, "bob", f, with(func(s *api.Stat) { s.Length, s.Name = 0, "m" })); n.Length != length || n.Name != "m" || e != api.OK {
			t.Errorf("%d: %s, %d", length, shown(n), e)
		}
	}
	// A file that has come beyond what may be may be left so, and cut.
	f = bobs(0600)
	f.Node.Length = 70000
	c.wantWstat(t, "bob", f, aLength(70000), api.OK)
	c.wantWstat(t, "bob", f, aLength(65536), api.OK)
	c.wantWstat(t, "bob", f, aLength(69999), api.ErrBig)
}

func TestWstatName(t *testing.T) {
	c := newCourt(t)
	for _, name := range []string{"m", "é", "...", strings.Repeat("x", 255)} {
		c.wantWstat(t, "bob", bobs(0), aName(name), api.OK)
		c.wantWstat(t, "eve", bobs(0777), aName(name), api.ErrPerm)
	}
	for _, name := range []string{".", "..", "a/b", "/", "\x00", "\xff", strings.Repeat("x", 256)} {
		for _, user := range []string{"bob", "eve"} {
			f := bobs(0777)
			f.Taken = true
			c.wantWstat(t, user, f, aName(name), api.ErrName)
			f.Node.Path = 1
			c.wantWstat(t, user, f, aName(name), api.ErrName)
		}
	}
	f := bobs(0777)
	f.Taken = true
	c.wantWstat(t, "bob", f, aName("m"), api.ErrExists)
	c.wantWstat(t, "eve", f, aName("m"), api.ErrPerm)
	// Its own name is no new one, though its directory has a child that is called so; nor is no name.
	c.wantWstat(t, "eve", f, aName("n"), api.OK)
	c.wantWstat(t, "eve", f, aName(""), api.OK)
	// The directory's rights count, by its own owner and group, not the node's.
	for mode, want := range map[uint32]api.Errno{0200: api.ErrPerm, 0020: api.OK, 0002: api.OK, 0: api.ErrPerm, 0755: api.ErrPerm} {
		f := bobs(0777)
		f.Parent.Uid, f.Parent.Gid, f.Parent.Mode = "eve", "adm", dirBit|mode
		c.wantWstat(t, "bob", f, aName("m"), want)
	}
}

// The root keeps its name, whoever asks; what else may be changed of it may be.
func TestWstatRoot(t *testing.T) {
	c := newCourt(t)
	root := api.Node{Path: 1, Parent: 1, Name: "/", Uid: "bob", Gid: "sys", Muid: "bob", Mode: dirBit | 0777}
	f := api.Facts{Node: root, Parent: root}
	c.wantWstat(t, "bob", f, aName("m"), api.ErrPerm)
	c.wantWstat(t, "bob", f, aName("/"), api.OK)
	c.wantWstat(t, "bob", f, aName("//"), api.ErrName)
	f.Taken = true
	c.wantWstat(t, "bob", f, aName("m"), api.ErrPerm)
	c.wantWstat(t, "bob", f, aMode(dirBit|0700), api.OK)
	c.wantWstat(t, "bob", f, anMtime(3), api.OK)
	c.wantWstat(t, "bob", f, aGroup("adm"), api.OK)
}

// An owner gives it to a group of theirs; who leads both groups from one to the other.
func TestWstatGroup(t *testing.T) {
	c := newCourt(t)
	for _, user := range everybody() {
		for _, owner := range []string{user, "bob", "nobody"} {
			for _, from := range everybody() {
				for _, to := range everybody() {
					f := bobs(0)
					f.Node.Uid, f.Node.Gid = owner, from
					c.wstat(t, user, f, aGroup(to))
				}
			}
		}
	}
	for _, x := range []struct {
		user, uid, from, to string
		want                api.Errno
	}{
		{"bob", "bob", "sys", "adm", api.OK}, {"bob", "bob", "none", "sys", api.OK}, {"bob", "bob", "sys", "led", api.ErrPerm}, {"bob", "bob", "sys", "nobody", api.ErrGroup}, {"eve", "bob", "sys", "joe", api.ErrGroup},
		{"glenda", "bob", "sys", "glenda", api.OK}, {"glenda", "bob", "glenda", "sys", api.OK}, {"glenda", "bob", "sys", "led", api.ErrPerm}, {"glenda", "bob", "led", "sys", api.ErrPerm},
		{"glenda", "glenda", "led", "sys", api.ErrPerm}, // the owner, who leads the new group, but is not in it
		{"bob", "eve", "bob", "sys", api.ErrPerm}, {"bob", "eve", "adm", "bob", api.OK}, {"eve", "bob", "led", "adm", api.OK}, {"eve", "bob", "gone", "eve", api.ErrPerm},
		{"nobody", "nobody", "sys", "nobody", api.ErrGroup}, {"nobody", "nobody", "sys", "bob", api.ErrPerm},
		{"eve", "bob", "sys", "sys", api.OK}, {"eve", "bob", "joe", "joe", api.OK}, // not touched
	} {
		f := bobs(0)
		f.Node.Uid, f.Node.Gid = x.uid, x.from
		c.wantWstat(t, x.user, f, aGroup(x.to), x.want)
	}
}

// Of what is said to be full, and of who has it open, Wstat takes no note; of a name that is taken only where it is touched.
func TestWstatLooksAtNoMore(t *testing.T) {
	c := newCourt(t)
	f := bobs(exclBit | 0600)
	f.Full, f.Taken, f.Node.Opens, f.Node.Kids, f.Parent.Opens = true, true, 5, 5, 5
	c.wantWstat(t, "bob", f, with(func(s *api.Stat) { s.Mode, s.Mtime, s.Length, s.Gid = 0600, 1, 1, "bob" }), api.OK)
	f.Taken = false
	c.wantWstat(t, "bob", f, aName("m"), api.OK)
}

// A record is the node's, field by field, each in its own place.
func TestRecord(t *testing.T) {
	n := api.Node{Path: 1<<40 + 5, Parent: 7, Name: "name", Mode: appendBit | tmpBit | 0640, Uid: "uid", Gid: "gid", Muid: "muid", Atime: 11, Mtime: 12, Vers: 13, Length: 14, Opens: 15, Kids: 16}
	want := api.Stat{Qid: api.Qid{Kind: 0x44, Vers: 13, Path: 1<<40 + 5}, Mode: appendBit | tmpBit | 0640, Atime: 11, Mtime: 12, Length: 14, Name: "name", Uid: "uid", Gid: "gid", Muid: "muid"}
	if got := rules.Record(n); got != want {
		t.Errorf("%s, want %s", shown(got), shown(want))
	}
	for bit := range 32 {
		n.Mode = 1<<bit | 01
		want.Mode, want.Length, want.Qid.Kind = n.Mode, 14, 0
		if bit > 23 {
			want.Qid.Kind = 1 << (bit - 24)
		}
		if bit == 31 {
			want.Length = 0
		}
		if got := rules.Record(n); got != want {
			t.Errorf("bit %d: %s, want %s", bit, shown(got), shown(want))
		}
	}
	if got := rules.Record(api.Node{}); got != (api.Stat{}) {
		t.Errorf("of noughts: %s", shown(got))
	}
}

// A record of what a store can have is one that can be written, and is read again.
func TestRecordIsWritten(t *testing.T) {
	want := rules.Record(bobs(exclBit | 0600).Node)
	b, e := stat.Encode(want)
	if e != api.OK {
		t.Fatal(e)
	}
	if got, e := stat.Decode(b); got != want || e != api.OK {
		t.Errorf("%s, %d", shown(got), e)
	}
}
