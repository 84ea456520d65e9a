package seq_test

import (
	"math"
	"math/rand"
	"slices"
	"strings"
	"testing"

	"verger/api"
	"verger/seq"
)

// W1: which configurations are none.
func TestNewRefused(t *testing.T) {
	for what, turn := range map[string]func(*api.Config){
		"users of no form":      func(c *api.Config) { c.Users = "ann::\n" },
		"a user twice":          func(c *api.Config) { c.Users = "ann:::\nann:::\n" },
		"a member without line": func(c *api.Config) { c.Users = "ann::joe:\n" },
		"too long a table":      func(c *api.Config) { c.Users = "ann:::\n" + strings.Repeat("#\n", 40000) },
		"nobody":                func(c *api.Config) { c.Users = "" },
		"an unknown owner":      func(c *api.Config) { c.Owner = "joe" },
		"no owner":              func(c *api.Config) { c.Owner = "" },
		"an unknown group":      func(c *api.Config) { c.Group = "joe" },
		"no group":              func(c *api.Config) { c.Group = "" },
		"Perm 01000":            func(c *api.Config) { c.Perm = 01000 },
		"Perm of a directory":   func(c *api.Config) { c.Perm = dirBit | 0755 },
		"Msize 0":               func(c *api.Config) { c.Msize = 0 },
		"Msize 511":             func(c *api.Config) { c.Msize = 511 },
		"Msize 65537":           func(c *api.Config) { c.Msize = 65537 },
		"Msize 2^32-1":          func(c *api.Config) { c.Msize = math.MaxUint32 },
		"Fids 0":                func(c *api.Config) { c.Fids = 0 },
		"Fids -1":               func(c *api.Config) { c.Fids = -1 },
		"Fids 257":              func(c *api.Config) { c.Fids = 257 },
		"Tags 0":                func(c *api.Config) { c.Tags = 0 },
		"Tags least":            func(c *api.Config) { c.Tags = math.MinInt },
		"Tags 65":               func(c *api.Config) { c.Tags = 65 },
		"Nodes 0":               func(c *api.Config) { c.Nodes = 0 },
		"Nodes 4097":            func(c *api.Config) { c.Nodes = 4097 },
		"Nodes greatest":        func(c *api.Config) { c.Nodes = math.MaxInt },
		"Workers 0":             func(c *api.Config) { c.Workers = 0 },
		"Workers -5":            func(c *api.Config) { c.Workers = -5 },
		"Workers 17":            func(c *api.Config) { c.Workers = 17 },
		"all of noughts":        func(c *api.Config) { *c = api.Config{} },
	} {
		c := config()
		turn(&c)
		if w, e := seq.New(c); w != nil || e != api.ErrConfig {
			t.Errorf("%s: New: %v, %d", what, w, e)
		}
	}
}

// W1: the least and greatest that may be; a world of it has the root alone.
func TestNew(t *testing.T) {
	least := api.Config{Users: "ann:::", Owner: "ann", Group: "ann", Msize: 512, Fids: 1, Tags: 1, Nodes: 1, Workers: 1}
	most := api.Config{Users: "#\nann:::\nbob:ann:ann:key\n", Owner: "bob", Group: "ann", Perm: 0777, Seed: math.MaxUint64, Msize: 65536, Fids: 256, Tags: 64, Nodes: 4096, Workers: 16}
	for _, c := range []api.Config{least, most} {
		p := newPair(t, c)
		p.wantSame(t)
		root := api.Node{Path: 1, Parent: 1, Name: "/", Mode: dirBit | c.Perm, Uid: c.Owner, Gid: c.Group, Muid: c.Owner}
		if l := p.w.Nodes(); !slices.Equal(l, []api.Node{root}) {
			t.Errorf("Nodes() = %+v", l)
		}
		for _, conn := range []int{math.MinInt, -1, 0, 1, math.MaxInt} {
			if p.w.Msize(conn) != 0 || len(p.w.Fids(conn)) != 0 || len(p.w.Ends(conn)) != 0 {
				t.Errorf("%d has a session", conn)
			}
		}
		p.done(t, math.MinInt, aVersion(100000))
		p.done(t, math.MinInt, anAttach(math.MaxUint32-1, "ann"))
		if p.w.Msize(math.MinInt) != c.Msize || len(p.w.Fids(math.MinInt)) != 1 || p.w.Msize(math.MaxInt) != 0 {
			t.Errorf("any number may be a connection's: %d, %v", p.w.Msize(math.MinInt), p.w.Fids(math.MinInt))
		}
	}
}

// The clock goes on by Tick alone, modulo 2 to the 32.
func TestTick(t *testing.T) {
	p := withSession(t, config())
	for _, n := range []uint32{0, 1, 1000, math.MaxUint32, 0, math.MaxUint32 - 5, 7} {
		was := p.w.Now()
		p.tick(n)
		p.done(t, 1, aStat(0))
		if p.w.Now() != was+n {
			t.Errorf("Tick(%d) from %d: %d", n, was, p.w.Now())
		}
	}
	p.tick(math.MaxUint32 - p.w.Now() + 3)
	if p.w.Now() != 2 {
		t.Errorf("Now() = %d", p.w.Now())
	}
	p.wantSame(t)
}

// Content: a file's bytes, all of them; none of what is no file.
func TestContent(t *testing.T) {
	p := withSession(t, config())
	p.make(t, "empty", 0666)
	p.make(t, "d", dirBit|0777)
	p.done(t, 1, aWalk(0, 1))
	p.done(t, 1, aCreate(1, "x", 0666, 2))
	p.done(t, 1, aWrite(1, 65530, "abcdef"))
	if b := p.w.Content(4); len(b) != 65536 || string(b[65530:]) != "abcdef" || strings.Trim(string(b[:65530]), "\x00") != "" {
		t.Errorf("%d bytes", len(b))
	}
	for _, path := range []uint64{0, 1, 2, 3, 5, math.MaxUint64} {
		if b := p.w.Content(path); len(b) != 0 {
			t.Errorf("Content(%d): %d bytes", path, len(b))
		}
	}
}

// A clone goes its own way, and so does that of which it was made: tree, clock, sessions, fids, authentications.
func TestClone(t *testing.T) {
	rnd := rand.New(rand.NewSource(2))
	for range 60 {
		p := grown(t, rnd, 60)
		c := p.clone()
		c.wantSame(t)
		for range 40 {
			one, other := p, c
			if rnd.Intn(2) > 0 {
				one, other = c, p
			}
			conn, q := one.m.someRequest(rnd)
			one.do(t, conn, q)
			one.tick(uint32(rnd.Intn(3)))
			if rnd.Intn(4) == 0 {
				other.wantSame(t)
			}
		}
		p.wantSame(t)
		c.wantSame(t)
	}
}

// How many authentications were begun is cloned, too, and counted on apart.
func TestCloneCounts(t *testing.T) {
	p := withSession(t, config())
	p.done(t, 1, anAuth(5, "eve"))
	c := p.clone()
	for range 3 {
		p.done(t, 1, aClunk(5))
		p.done(t, 1, anAuth(5, "eve"))
	}
	c.done(t, 1, aClunk(5))
	if r := c.done(t, 1, anAuth(5, "eve")); r.Qid.Vers != 2 {
		t.Errorf("the clone's: %d", r.Qid.Vers)
	}
	c.done(t, 1, aClunk(5))
	p.done(t, 1, aClunk(5))
	if r := p.done(t, 1, anAuth(5, "eve")); r.Qid.Vers != 5 {
		t.Errorf("the other's: %d", r.Qid.Vers)
	}
}
