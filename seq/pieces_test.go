package seq_test

import (
	"bytes"
	"math"
	"math/rand"
	"slices"
	"testing"

	"verger/api"
	"verger/nodes"
	"verger/rules"
	"verger/stat"
)

// somePieces are pieces of each kind, and of none, that mean something at connection 1 of a stage.
func somePieces() []api.Piece {
	return []api.Piece{
		opened(x, 1), made(1, api.Node{Name: "n", Mode: 0666}), stands(annX, api.Fid{State: open, Node: 1}), stands(noSuch, api.Fid{State: shut, Node: 1}),
		gone(annX), readFrom(x, 0, 5), recordOf(x), agreed(600), agreed(0), {Kind: 0, Fid: annX, Op: api.Op{Path: x}, Count: 5}, {Kind: 7, Fid: annX, Op: api.Op{Path: x}, Count: 5}, {Kind: 255},
	}
}

// W5: where there is no session nothing is done or told, but that one is begun.
func TestApplyNoSession(t *testing.T) {
	for _, piece := range somePieces() {
		p := stage(t, config())
		if b := p.w.Apply(2, piece); len(b) > 0 {
			t.Errorf("%+v: %q", piece, b)
		}
		if piece.Kind == api.PieceMsize {
			p.m.on(2).msize = piece.Count
		}
		p.wantSame(t)
	}
}

// W5: a session's size, a new session, and none.
func TestApplyMsize(t *testing.T) {
	for _, count := range []int{1, 2, 23, 24, 511, 512, 65535, 65536} {
		p := stage(t, config())
		fids := p.w.Fids(1)
		p.w.Apply(1, agreed(count))
		p.w.Apply(2, agreed(count))
		p.m.on(1).msize, p.m.on(2).msize = count, count
		p.wantSame(t)
		if p.w.Msize(1) != uint32(count) || p.w.Msize(2) != uint32(count) || !same(p.w.Fids(1), fids) {
			t.Errorf("%d: %d, %d, %+v", count, p.w.Msize(1), p.w.Msize(2), p.w.Fids(1))
		}
		p.done(t, 2, anAttach(1, "bob"))
		p.w.Apply(1, api.Piece{Kind: api.PieceMsize, Fid: annX, Op: opened(x, 5).Op})
		p.m.talks[1] = &talk{}
		p.wantSame(t) // no fid is clunked by that: what was open is counted still
		if n := p.is(t, x); n.Opens != 4 || p.w.Msize(1) != 0 || p.w.Msize(2) == 0 {
			t.Errorf("%+v", n)
		}
		p.w.Apply(1, agreed(count))
		if len(p.w.Fids(1)) != 0 || p.w.Msize(1) != uint32(count) {
			t.Errorf("a new session: %+v", p.w.Fids(1))
		}
	}
	for _, count := range []int{-1, 65537, 1 << 32, 1<<32 + 600, math.MinInt, math.MaxInt, -600} {
		p := stage(t, config())
		p.w.Apply(1, agreed(count))
		p.w.Apply(2, agreed(count))
		p.wantSame(t)
	}
}

// W5: a new session has room for as many fids as the configuration says.
func TestApplyRoom(t *testing.T) {
	c := config()
	for _, c.Fids = range []int{1, 3, 256} {
		p := newPair(t, c)
		p.w.Apply(7, agreed(600))
		for num := range uint32(c.Fids + 2) {
			p.w.Apply(7, stands(num, api.Fid{State: shut, Node: 1, User: "ann"}))
		}
		if n := len(p.w.Fids(7)); n != c.Fids {
			t.Errorf("%d fids, want %d", n, c.Fids)
		}
	}
}

// W5: a fid is what it says from now on, whether it was there or not; what can't be is not done.
func TestApplyFid(t *testing.T) {
	for _, f := range []api.Fid{
		{State: shut, Node: 77, User: "joe"}, {State: open, Node: x, User: "bob", Mode: 200, Remove: true, Last: 5, Told: math.MaxUint64},
		{State: talks, User: "eve", Talk: api.Talk{User: "eve", Said: 3, Step: api.TalkHello, Heard: []byte("abc")}},
	} {
		for _, num := range []uint32{annX, openX, talkFid, noSuch, noFid - 1} {
			p := stage(t, config())
			if b := p.w.Apply(1, stands(num, f)); len(b) > 0 {
				t.Errorf("told: %q", b)
			}
			p.m.on(1).put(num, f)
			p.wantSame(t)
		}
	}
	p := fullStage(t)
	for _, f := range []api.Fid{{State: 0}, {State: 4, Node: 1}, {State: 255}} {
		p.w.Apply(1, stands(annX, f))
		p.w.Apply(1, stands(noSuch, f))
	}
	p.w.Apply(1, stands(noFid, api.Fid{State: shut}))
	p.w.Apply(1, stands(noSuch, api.Fid{State: shut})) // there is no room
	p.wantSame(t)
}

// W5: of a new fid of an authentication one more was begun; of one that is there, or can't be, none.
func TestApplyCounts(t *testing.T) {
	f := api.Fid{State: talks, User: "eve"}
	vers := func(p pair) uint32 { return p.w.Decide(1, anAuth(78, "eve")).Reply.Qid.Vers }
	p := stage(t, config())
	for i, piece := range []struct {
		piece api.Piece
		want  uint32
	}{
		{stands(20, f), 3}, {stands(20, f), 3}, {stands(talkFid, f), 3}, {stands(annX, f), 3}, {stands(noFid, f), 3}, {stands(21, api.Fid{State: shut}), 3}, {stands(22, api.Fid{State: open, Node: 1}), 3},
		{stands(22, f), 3}, {gone(22), 3}, {stands(22, f), 4}, {stands(23, api.Fid{State: 9, Talk: api.Talk{User: "eve"}}), 4}, {agreed(600), 4}, {agreed(0), 0}, {agreed(600), 4}, {stands(20, f), 5},
	} {
		p.w.Apply(1, piece.piece)
		if got := vers(p); got != piece.want {
			t.Errorf("%d: %d, want %d", i, got, piece.want)
		}
	}
	p.w.Apply(2, agreed(600))
	if r := p.w.Decide(2, anAuth(1, "eve")); r.Reply.Qid.Vers != 1 {
		t.Errorf("another connection's: %+v", r)
	}
}

// W5: a fid is no more; of one that is not there nothing is done, and nothing else of one that is open.
func TestApplyGone(t *testing.T) {
	p := stage(t, config())
	for _, num := range []uint32{noSuch, noFid, annX, openX, talkFid, annX} {
		p.w.Apply(1, gone(num))
		p.m.on(1).drop(num)
		p.wantSame(t)
	}
}

// W5: what a read and a record tell; of what is not there, nothing.
func TestApplyTells(t *testing.T) {
	p := stage(t, config())
	p.done(t, 1, aWrite(openX, 300, "abcdef"))
	content := p.w.Content(x)
	for _, r := range []struct {
		offset uint64
		count  int
	}{{0, 0}, {0, 1}, {0, 306}, {0, 307}, {5, 300}, {255, 2}, {305, 5}, {306, 5}, {math.MaxUint64, 5}, {0, -1}, {0, math.MinInt}, {3, math.MaxInt}} {
		var want []byte
		if r.offset < 306 && r.count > 0 {
			want = content[r.offset:min(306, r.offset+uint64(min(r.count, 1000)))]
		}
		if b := p.w.Apply(1, readFrom(x, r.offset, r.count)); !bytes.Equal(b, want) {
			t.Errorf("%+v: %q, want %q", r, b, want)
		}
		for _, path := range []uint64{0, 1, g, d, 77, math.MaxUint64} {
			if b := p.w.Apply(1, readFrom(path, r.offset, r.count)); len(b) > 0 {
				t.Errorf("of %d: %q", path, b)
			}
		}
	}
	for _, n := range p.w.Nodes() {
		want, _ := stat.Encode(rules.Record(n))
		if b := p.w.Apply(1, recordOf(n.Path)); !bytes.Equal(b, want) {
			t.Errorf("%+v: %x, want %x", n, b, want)
		}
	}
	for _, path := range []uint64{0, g, 77, math.MaxUint64} {
		if b := p.w.Apply(1, recordOf(path)); len(b) > 0 {
			t.Errorf("of %d: %x", path, b)
		}
	}
	p.wantSame(t)
}

// someOp is an operation that is often refused.
func someOp(rnd *rand.Rand) api.Op {
	o := api.Op{
		Kind: oneOf(rnd, api.OpMake, api.OpMake, api.OpDrop, api.OpName, api.OpSet, api.OpCut, api.OpBytes, api.OpBytes, api.OpOpens, api.OpKind(rnd.Intn(256))),
		Path: uint64(rnd.Intn(12)), Name: someName(rnd), Mask: api.Mask(rnd.Intn(200)), Offset: someOffset(rnd), N: rnd.Intn(5) - 2,
		Node: api.Node{Name: someName(rnd), Mode: oneOf[uint32](rnd, 0666, dirBit|0777, dirBit|0700, 1<<20), Uid: someText(rnd), Gid: someText(rnd), Muid: someText(rnd), Atime: rnd.Uint32(), Mtime: rnd.Uint32()},
	}
	o.Data = someData(rnd)
	if room := 256 - int(o.Offset%256); len(o.Data) > room && often(rnd, 5) {
		o.Data = o.Data[:room]
	}
	return o
}

// W5: an operation is done to the store, or, where that refuses it, not.
func TestApplyOps(t *testing.T) {
	rnd := rand.New(rand.NewSource(3))
	for range 40 {
		c := config()
		c.Nodes = 8
		w := newWorld(t, c)
		s, _ := nodes.New(c)
		w.Apply(5, agreed(600))
		for range 200 {
			o := someOp(rnd)
			s.Do(o)
			if b := w.Apply(5, api.Piece{Kind: api.PieceOp, Fid: 3, State: api.Fid{State: shut}, Op: o, Count: 9}); len(b) > 0 {
				failf(t, "%+v: %q", o, b)
			}
		}
		if l := slices.Collect(s.All()); !slices.Equal(l, w.Nodes()) || len(w.Fids(5)) > 0 {
			failf(t, "%+v\nwant %+v", w.Nodes(), l)
		}
		for n := range s.All() {
			if b := w.Content(n.Path); !bytes.Equal(b, s.Read(n.Path, 0, 65536)) {
				failf(t, "%d: %q", n.Path, b)
			}
		}
	}
}

// W6: a request done piece by piece is a request done whole, and told the same.
func TestDoIsThePieces(t *testing.T) {
	t.Parallel()
	rnd := rand.New(rand.NewSource(4))
	for range 100 {
		p := grown(t, rnd, 100)
		for range 30 {
			conn, q := p.m.someRequest(rnd)
			c := p.w.Clone()
			plan := c.Decide(conn, q)
			if plan.Reply.Kind == api.Rversion {
				for _, ahead := range c.Ends(conn) {
					c.Do(conn, ahead)
				}
			}
			r := plan.Reply
			for _, piece := range append(plan.Now, plan.Pieces...) {
				r.Data = append(r.Data, c.Apply(conn, piece)...)
			}
			if whole := p.do(t, conn, q); !same(r, whole) {
				failf(t, "%+v: %+v, piece by piece %+v", q, whole, r)
			}
			if got, want := allOf(c, p.conns), allOf(p.w, p.conns); !sameAll(got, want) {
				failf(t, "%+v: %+v, piece by piece %+v", q, want, got)
			}
		}
	}
}
