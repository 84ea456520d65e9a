package solo_test

import (
	"math"
	"slices"
	"testing"

	"verger/api"
	"verger/seq"
	"verger/solo"
)

// S1: New's error is that of seq's New, and then there is no server.
func TestNewRefused(t *testing.T) {
	for what, turn := range map[string]func(*api.Config){
		"users of no form":    func(c *api.Config) { c.Users = "ann::\n" },
		"nobody":              func(c *api.Config) { c.Users = "" },
		"an unknown owner":    func(c *api.Config) { c.Owner = "joe" },
		"an unknown group":    func(c *api.Config) { c.Group = "joe" },
		"Perm of a directory": func(c *api.Config) { c.Perm = dirBit | 0755 },
		"Msize 511":           func(c *api.Config) { c.Msize = 511 },
		"Msize 65537":         func(c *api.Config) { c.Msize = 65537 },
		"Fids 0":              func(c *api.Config) { c.Fids = 0 },
		"Fids 257":            func(c *api.Config) { c.Fids = 257 },
		"Tags 0":              func(c *api.Config) { c.Tags = 0 },
		"Tags 65":             func(c *api.Config) { c.Tags = 65 },
		"Nodes 0":             func(c *api.Config) { c.Nodes = 0 },
		"Nodes 4097":          func(c *api.Config) { c.Nodes = 4097 },
		"Workers 0":           func(c *api.Config) { c.Workers = 0 },
		"Workers 17":          func(c *api.Config) { c.Workers = 17 },
		"all of noughts":      func(c *api.Config) { *c = api.Config{} },
	} {
		c := config()
		turn(&c)
		_, want := seq.New(c)
		if s, e := solo.New(c); s != nil || e != want || e != api.ErrConfig {
			t.Errorf("%s: New: %v, %d", what, s, e)
		}
	}
}

// S1: the least and the greatest that may be; a server of it has the root alone, and no connection.
func TestNew(t *testing.T) {
	least := api.Config{Users: "ann:::", Owner: "ann", Group: "ann", Msize: 512, Fids: 1, Tags: 1, Nodes: 1, Workers: 1}
	most := api.Config{Users: "#\nann:::\nbob:ann:ann:key\n", Owner: "bob", Group: "ann", Perm: 0777, Seed: math.MaxUint64, Msize: 65536, Fids: 256, Tags: 64, Nodes: 4096, Workers: 16}
	for _, c := range []api.Config{least, most} {
		p := newPair(t, c)
		p.wantSame(t)
		root := api.Node{Path: 1, Parent: 1, Name: "/", Mode: dirBit | c.Perm, Uid: c.Owner, Gid: c.Group, Muid: c.Owner}
		if l := p.s.Nodes(); !slices.Equal(l, []api.Node{root}) {
			t.Errorf("Nodes() = %+v", l)
		}
		if _, e := p.s.Feed(1, nil); e != api.ErrSrvConn {
			t.Errorf("a connection is there: %d", e)
		}
		p.open(t)
		if r := p.done(t, 1, aVersion(65536)); r.Msize != c.Msize {
			t.Errorf("%s", shown(r))
		}
		p.done(t, 1, anAttach(1, "ann"))
	}
}

// S1: the numbers are 1, then 2, and so on; none is given twice, and none by an Open that is refused; sixteen may be there that have not ended.
func TestOpen(t *testing.T) {
	p := newPair(t, config())
	wantOpen := func(want int, wantE api.Errno) {
		t.Helper()
		if n, e := p.open(t); n != want || e != wantE {
			t.Errorf("Open() = %d, %d; want %d, %d", n, e, want, wantE)
		}
	}
	for n := 1; n <= 16; n++ {
		wantOpen(n, api.OK)
	}
	for range 3 {
		wantOpen(0, api.ErrSrvConns)
	}
	if _, e := p.feed(t, 17, nil); e != api.ErrSrvConn {
		t.Errorf("an Open that was refused gave a number: %d", e)
	}
	p.close(t, 5)
	wantOpen(17, api.OK)
	wantOpen(0, api.ErrSrvConns)
	p.close(t, 5) // once more: it has ended already
	wantOpen(0, api.ErrSrvConns)
	p.over(t, 16, sized(6))
	p.over(t, 1, sized(0))
	wantOpen(18, api.OK)
	p.close(t, 17)
	wantOpen(19, api.OK)
	wantOpen(20, api.OK)
	wantOpen(0, api.ErrSrvConns)
	for conn := 1; conn <= 20; conn++ {
		p.close(t, conn)
	}
	wantOpen(21, api.OK)
	p.wantSame(t)
}

// S2: a number that was never given, whatever it is.
func TestNeverGiven(t *testing.T) {
	p := withSession(t, config())
	for _, conn := range []int{math.MinInt, -2, -1, 0, 3, 4, 16, 17, math.MaxInt} {
		for _, b := range [][]byte{nil, sized(6), frameOf(aVersion(8192)), raw(120, 1)} {
			if told, e := p.feed(t, conn, b); len(told) > 0 || e != api.ErrSrvConn {
				t.Errorf("Feed(%d): %x, %d", conn, told, e)
			}
		}
		if e := p.close(t, conn); e != api.ErrSrvConn {
			t.Errorf("Close(%d): %d", conn, e)
		}
		if l := p.s.Fids(conn); len(l) > 0 {
			t.Errorf("Fids(%d): %+v", conn, l)
		}
		p.wantSame(t)
	}
}

// S2: one that has ended, whether it had a session or not, by Close or by its bytes.
func TestEnded(t *testing.T) {
	p := withSession(t, config())
	p.open(t)
	p.open(t)
	p.done(t, 3, aVersion(8192))
	p.close(t, 1)
	p.close(t, 2)
	p.over(t, 3, sized(5))
	p.over(t, 4, sized(0))
	for conn := 1; conn <= 4; conn++ {
		p.wantOver(t, conn)
		if e := p.close(t, conn); e != api.ErrClosed {
			t.Errorf("Close(%d) again: %d", conn, e)
		}
	}
}

// S2: a connection's end is its session's end: fids that are clunked, files that go with them, by their users; and nothing else of any other connection.
func TestEndOfSession(t *testing.T) {
	for what, end := range map[string]func(pair){
		"Close":        func(p pair) { p.close(t, 1) },
		"a bad size":   func(p pair) { p.over(t, 1, []byte{3, 0, 0, 0}) },
		"too long":     func(p pair) { p.over(t, 1, append(sized(8193), make([]byte, 100)...)) },
		"within bytes": func(p pair) { p.feed(t, 1, []byte{17, 0, 0, 0, 110}); p.close(t, 1) },
	} {
		c := config()
		c.Perm = 0777
		p := withSession(t, c)
		p.done(t, 2, aVersion(8192))
		p.done(t, 2, anAttach(0, "ann"))
		dir := p.make(t, 1, "d", dirBit|0777)
		p.done(t, 1, aWalk(9, 1, "d"))
		p.done(t, 1, aCreate(1, "goes", 0666, 0x42))
		path := p.make(t, 1, "x", exclBit|0666)
		p.done(t, 1, aWalk(0, 3, "x"))
		p.done(t, 1, anOpen(3, 0))
		p.done(t, 1, anAuth(7, "eve"))
		p.done(t, 2, aWalk(0, 4, "x"))
		if r := p.do(t, 2, anOpen(4, 0)); r.Ename != api.ErrExcl.Error() {
			t.Fatalf("%s: %s", what, shown(r))
		}
		p.done(t, 2, aWalk(0, 5, "d"))
		others := p.s.Fids(2)
		p.tick(4)
		end(p)
		p.wantSame(t)
		if n := p.is(t, dir); n.Kids != 0 || n.Vers != 2 || n.Mtime != 9 || n.Muid != "bob" {
			t.Errorf("%s: %+v", what, n)
		}
		if n := p.is(t, path); n.Opens != 0 || p.isThere(dir+1) {
			t.Errorf("%s: %+v", what, p.s.Nodes())
		}
		if !same(p.s.Fids(2), others) || len(p.s.Fids(1)) > 0 {
			t.Errorf("%s: %+v, %+v", what, p.s.Fids(1), p.s.Fids(2))
		}
		p.done(t, 2, anOpen(4, 0))
	}
}

// S2: the clock goes on by Tick alone, modulo 2 to the 32.
func TestTick(t *testing.T) {
	p := withSession(t, config())
	p.done(t, 1, aCreate(0, "x", 0666, 1))
	now := uint32(5)
	for _, n := range []uint32{0, 1, 0, 1000, math.MaxUint32, math.MaxUint32 - 1009, 7} {
		p.tick(n)
		now += n
		for range 3 {
			p.done(t, 1, aWrite(0, 0, "x"))
		}
		if at := p.is(t, 2).Mtime; at != now {
			t.Errorf("behind Tick(%d): %d, want %d", n, at, now)
		}
	}
}

// S5: what is looked at is the world's.
func TestLooks(t *testing.T) {
	p := withSession(t, config())
	p.make(t, 1, "d", dirBit|0777)
	p.done(t, 1, aWalk(0, 1))
	p.done(t, 1, aCreate(1, "x", 0666, 2))
	p.done(t, 1, aWrite(1, 3, "hi"))
	l := p.s.Nodes()
	if len(l) != 3 || l[0].Path != 1 || l[0].Vers != 2 || l[1].Path != 2 || l[1].Name != "d" || l[2].Path != 3 || l[2].Length != 5 || l[2].Opens != 1 {
		t.Errorf("Nodes() = %+v", l)
	}
	for path, want := range map[uint64]string{0: "", 1: "", 2: "", 3: "\x00\x00\x00hi", 4: "", math.MaxUint64: ""} {
		if b := p.s.Content(path); string(b) != want {
			t.Errorf("Content(%d) = %q", path, b)
		}
	}
	want := []api.FidAt{
		{Num: 0, Fid: api.Fid{State: api.FidShut, Node: 1, User: "ann"}},
		{Num: 1, Fid: api.Fid{State: api.FidOpen, Node: 3, User: "ann", Mode: 2}},
		{Num: 9, Fid: api.Fid{State: api.FidShut, Node: 1, User: "bob"}},
	}
	if l := p.s.Fids(1); !same(l, want) {
		t.Errorf("Fids(1) = %+v", l)
	}
}
