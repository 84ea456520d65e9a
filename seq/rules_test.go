package seq_test

import (
	"math"
	"math/rand"
	"runtime"
	"slices"
	"strings"
	"sync"
	"testing"

	"verger/api"
	"verger/seq"
)

// wildMsg is a message of whatever stands in its fields, of a request's kind mostly.
func wildMsg(rnd *rand.Rand) api.Msg {
	text := func() string {
		return oneOf(rnd, "", "a", "ann", "eve", "..", "x", "d", "9P2000", "\xff", strings.Repeat("x", rnd.Intn(300)))
	}
	num := func() uint32 { return oneOf(rnd, uint32(rnd.Intn(16)), rnd.Uint32()>>rnd.Intn(32), noFid) }
	m := api.Msg{
		Kind: api.Kind(100 + 2*rnd.Intn(14)), Tag: uint16(rnd.Uint32()), Msize: num(), Version: text(), Afid: num(), Uname: text(), Aname: oneOf(rnd, "", text()), Ename: text(), Oldtag: uint16(num()),
		Fid: num(), Newfid: num(), Mode: uint8(num()), Iounit: num(), Name: text(), Perm: num(), Offset: rnd.Uint64() >> rnd.Intn(64), Count: num(), Data: someData(rnd),
		Stat: api.Stat{Type: math.MaxUint16, Dev: math.MaxUint32, Qid: api.Qid{Kind: 255, Vers: math.MaxUint32, Path: math.MaxUint64}, Mode: num(), Atime: math.MaxUint32, Mtime: num(), Length: rnd.Uint64() >> rnd.Intn(64), Name: text(), Gid: text()},
	}
	for range rnd.Intn(5) {
		m.Names = append(m.Names, text())
		m.Qids = append(m.Qids, api.Qid{Path: rnd.Uint64()})
	}
	if rnd.Intn(20) == 0 {
		m.Kind = api.Kind(rnd.Intn(256))
	}
	return m
}

// wildPiece is a piece of whatever stands in its fields.
func wildPiece(rnd *rand.Rand) api.Piece {
	path := func() uint64 { return oneOf(rnd, uint64(rnd.Intn(9)), rnd.Uint64()>>rnd.Intn(64)) }
	o := someOp(rnd)
	o.Path = path()
	return api.Piece{
		Kind: api.PieceKind(rnd.Intn(8)), Fid: oneOf(rnd, uint32(rnd.Intn(16)), rnd.Uint32()), Op: o, Offset: path(), Count: int(oneOf(rnd, path(), rnd.Uint64(), 600, 8192)),
		State: api.Fid{
			State: api.FidState(rnd.Intn(5)), Node: path(), User: oneOf(rnd, "ann", "bob", "", "\xff\x00", strings.Repeat("x", 99)), Mode: uint8(rnd.Uint32()), Remove: rnd.Intn(2) > 0, Last: path(), Told: path(),
			Talk: api.Talk{User: oneOf(rnd, "eve", "joe"), Tree: oneOf(rnd, "", "t"), Ours: path(), Theirs: path(), Step: api.TalkStep(rnd.Intn(7)), Said: int(rnd.Uint64()), Heard: someData(rnd)},
		},
	}
}

// R1: nothing panics and all ends, whatever is handed in, also on what no request would come to; R5: what is answered is t's own, or a refusal by an error's word.
func TestAnything(t *testing.T) {
	t.Parallel()
	rnd := rand.New(rand.NewSource(13))
	for range 100 {
		w := newWorld(t, someConfig(rnd))
		for range 300 {
			conn := oneOf(rnd, 1, 1, 1, 2, math.MinInt, math.MaxInt)
			q := wildMsg(rnd)
			w.Foot(conn, q)
			w.Decide(conn, q)
			r := w.Do(conn, q)
			if r.Tag != q.Tag || r.Kind != q.Kind+1 && (r.Kind != api.Rerror || r.Ename == "error" || r.Ename == "") {
				failf(t, "%s: %s", shown(q), shown(r))
			}
			w.Apply(conn, wildPiece(rnd))
			w.Tick(rnd.Uint32() >> rnd.Intn(32))
			w.Content(rnd.Uint64() >> rnd.Intn(64))
			if rnd.Intn(50) == 0 {
				w.Clone().Leave(conn)
			}
			if rnd.Intn(100) == 0 {
				w.Leave(conn)
			}
		}
		for _, conn := range []int{1, 2, math.MinInt, math.MaxInt, 0} {
			w.Leave(conn)
		}
	}
}

// R1: also the greatest numbers, and very long texts and lists; in fields that a kind does not use, too, which say nothing.
func TestExtremes(t *testing.T) {
	t.Parallel()
	long := strings.Repeat("x", 70000)
	first := stage(t, config())
	for kind := range 256 {
		for _, n := range []uint64{0, 1, 1 << 31, math.MaxUint64} {
			p := first.clone()
			for _, fid := range []uint32{annX, openX, openRoot, talkFid, openGone, uint32(n)} {
				q := api.Msg{Kind: api.Kind(kind), Tag: uint16(n), Msize: uint32(n), Afid: uint32(n), Fid: fid, Newfid: uint32(n), Mode: uint8(n), Perm: uint32(n), Offset: n, Count: uint32(n), Stat: api.Stat{Mode: uint32(n), Length: n}}
				p.do(t, 1, q)
				q.Uname, q.Name, q.Version, q.Data, q.Names, q.Stat.Name = long, long, long, []byte(long), []string{long}, long
				p.do(t, 1, q)
				q.Uname, q.Name, q.Version, q.Data, q.Names, q.Stat.Name = "eve", "n", "9P2000", make([]byte, 65513), make([]string, 16), "n"
				p.do(t, 1, q)
			}
			p.wantSame(t)
		}
	}
}

// spoil changes all that stands in a plan's or a reply's lists, and behind them.
func spoil(p api.Plan) {
	spoilMsg(p.Reply)
	for _, l := range [][]api.Piece{p.Now, p.Pieces} {
		l = l[:cap(l)]
		for i := range l {
			spoilBytes(l[i].Op.Data)
			spoilBytes(l[i].State.Talk.Heard)
			l[i] = api.Piece{Kind: 99}
		}
	}
}

func spoilMsg(m api.Msg) {
	spoilBytes(m.Data)
	for i := range m.Qids[:cap(m.Qids)] {
		m.Qids[:cap(m.Qids)][i] = api.Qid{Kind: 99}
	}
}

func spoilBytes(b []byte) {
	b = b[:cap(b)]
	for i := range b {
		b[i] = '!'
	}
}

// R2: what comes out is new memory, spare room too: of each call, of each time that it is asked.
func TestComesOutNew(t *testing.T) {
	t.Parallel()
	rnd := rand.New(rand.NewSource(14))
	for range 60 {
		p := grown(t, rnd, 100)
		for range 40 {
			conn, q := p.m.someRequest(rnd)
			spoil(p.w.Decide(conn, q))
			needs := p.w.Foot(conn, q)
			for i := range needs[:cap(needs)] {
				needs[:cap(needs)][i] = api.Need{}
			}
			p.wantLooks(t, conn, q)
			ends, nodes, fids := p.w.Ends(conn), p.w.Nodes(), p.w.Fids(conn)
			for i := range ends[:cap(ends)] {
				ends[:cap(ends)][i] = api.Msg{}
			}
			for i := range nodes[:cap(nodes)] {
				nodes[:cap(nodes)][i] = api.Node{}
			}
			for i := range fids {
				spoilBytes(fids[i].Fid.Talk.Heard)
				fids[i] = api.FidAt{}
			}
			for _, n := range p.w.Nodes() {
				spoilBytes(p.w.Content(n.Path))
				spoilBytes(p.w.Apply(conn, readFrom(n.Path, 0, 1000)))
				spoilBytes(p.w.Apply(conn, recordOf(n.Path)))
			}
			spoilMsg(p.w.Do(conn, q))
			p.m.do(conn, q)
			p.wantSame(t)
		}
	}
}

// R2: the lists of one answer share no memory: what is put behind one, or into it, changes no other.
func TestListsApart(t *testing.T) {
	p := stage(t, config())
	plan := p.w.Decide(1, aWrite(openX, 100, strings.Repeat("abcdefgh", 100)))
	for i := range plan.Pieces {
		_ = append(plan.Pieces[i].Op.Data, strings.Repeat("!", 300)...)
	}
	text := ""
	for _, piece := range plan.Pieces {
		text += string(piece.Op.Data)
	}
	if text != strings.Repeat("abcdefgh", 100) {
		t.Errorf("%q", text)
	}
	p.done(t, 1, aRead(talkFid, 0, 25))
	p.done(t, 1, aWrite(talkFid, 0, "abc"))
	plan = p.w.Decide(1, aRead(talkFid, 0, 9))
	spoilBytes(plan.Now[0].State.Talk.Heard)
	p.wantSame(t)
	q := aWrite(talkFid, 0, "def")
	plan = p.w.Decide(1, q)
	spoilBytes(q.Data)
	if got := plan.Now[0].State.Talk.Heard; string(got) != "abcdef" {
		t.Errorf("%q", got)
	}
}

// R2: nothing that is handed in is written into, nor what stands behind a list; and nothing is kept of it.
func TestHandedInStays(t *testing.T) {
	p := stage(t, config())
	room := []byte("0123456789, and spare room")
	names := []string{"d", "y", "spare"}
	was, wasNames := slices.Clone(room), slices.Clone(names)
	q := aWrite(openX, 250, "")
	q.Data = room[:10]
	p.done(t, 1, q)
	w := aWalk(annRoot, 60)
	w.Names = names[:2]
	p.done(t, 1, w)
	f := api.Fid{State: talks, User: "eve", Talk: api.Talk{User: "eve", Step: api.TalkAnswer, Heard: room[:4]}}
	p.w.Apply(1, stands(61, f))
	p.m.on(1).put(61, api.Fid{State: talks, User: "eve", Talk: api.Talk{User: "eve", Step: api.TalkAnswer, Heard: []byte("0123")}})
	p.done(t, 1, aWrite(61, 0, "abc"))
	p.w.Apply(1, stands(61, f))
	p.m.on(1).put(61, api.Fid{State: talks, User: "eve", Talk: api.Talk{User: "eve", Step: api.TalkAnswer, Heard: []byte("0123")}})
	p.w.Apply(1, api.Piece{Kind: api.PieceOp, Op: api.Op{Kind: api.OpBytes, Path: y, Data: room[:6]}})
	p.m.file(y).data = []byte("012345")
	if !slices.Equal(room, was) || !slices.Equal(names, wasNames) {
		t.Errorf("%q, %q", room, names)
	}
	spoilBytes(room)
	clear(names)
	p.wantSame(t)
	if b := p.w.Content(x); string(b[250:]) != "0123456789" {
		t.Errorf("%q", b)
	}
}

// R2: a list of nothing may be nil or not.
func TestNilIsEmpty(t *testing.T) {
	p := stage(t, config())
	for _, data := range [][]byte{nil, {}, make([]byte, 0, 9)} {
		q := aWrite(openX, 3, "")
		q.Data = data
		p.wantPlan(t, 1, q, api.Msg{}, nil, nil)
	}
	for _, names := range [][]string{nil, {}, make([]string, 0, 9)} {
		p.wantPlan(t, 1, aWalk(annX, noSuch, names...), api.Msg{}, []api.Piece{stands(noSuch, api.Fid{State: shut, Node: x, User: "ann"})}, nil)
	}
}

// R3: the same requests are answered the same by each world of one configuration, whatever is looked at between, and whatever is done to others; looking changes nothing.
func TestSameAgain(t *testing.T) {
	c := someConfig(rand.New(rand.NewSource(15)))
	idle := stage(t, config())
	one, other := newPair(t, c), newPair(t, c)
	rnd := rand.New(rand.NewSource(16))
	for range 600 {
		conn, q := one.m.someRequest(rnd)
		r := one.w.Do(conn, q)
		one.m.do(conn, q)
		for range 2 {
			other.w.Foot(conn, q)
			other.w.Decide(conn, q)
			other.w.Ends(conn)
			other.w.Clone().Do(conn, q)
		}
		other.wantSame(t)
		if again := other.do(t, conn, q); !same(again, r) {
			failf(t, "%s: %s, %s", shown(q), shown(r), shown(again))
		}
	}
	one.wantSame(t)
	idle.wantSame(t)
}

// Nothing is kept in common from world to world, clones too: goroutines that have one each do not disturb one another.
func TestApart(t *testing.T) {
	var all sync.WaitGroup
	first := stage(t, config())
	for seed := range int64(4) {
		p := first.clone()
		all.Go(func() {
			rnd := rand.New(rand.NewSource(seed))
			for range 300 {
				conn, q := p.m.someRequest(rnd)
				if r, want := p.w.Do(conn, q), p.m.do(conn, q); !same(r, want) {
					t.Errorf("%s: %s, want %s", shown(q), shown(r), shown(want))
				}
			}
		})
	}
	all.Wait()
	first.wantSame(t)
}

// R4: nothing goes on when a call has answered.
func TestNoGoroutines(t *testing.T) {
	was := runtime.NumGoroutine()
	p := stage(t, config())
	for _, q := range []api.Msg{aRead(openRoot, 0, 1000), aWalk(annRoot, 40, "d", "y"), aRemove(annD), aClunk(openX), aStat(noSuch)} {
		p.do(t, 1, q)
	}
	p.w.Clone().Leave(1)
	seq.New(api.Config{})
	if n := runtime.NumGoroutine(); n > was {
		t.Errorf("%d goroutines more", n-was)
	}
}
