package solo_test

import (
	"bytes"
	"math"
	"math/rand"
	"runtime"
	"slices"
	"strings"
	"sync"
	"testing"

	"verger/api"
	"verger/solo"
)

// wildMsg is a message of whatever stands in its fields.
func wildMsg(rnd *rand.Rand) api.Msg {
	text := func() string {
		return oneOf(rnd, "", "a", "ann", "eve", "..", "x", "9P2000", "\xff", strings.Repeat("x", rnd.Intn(300)))
	}
	num := func() uint32 { return oneOf(rnd, uint32(rnd.Intn(16)), rnd.Uint32()>>rnd.Intn(32), noFid) }
	m := api.Msg{
		Kind: api.Kind(100 + rnd.Intn(28)), Tag: oneOf(rnd, uint16(rnd.Uint32()), api.NoTag), Msize: num(), Version: text(), Afid: num(), Uname: text(), Aname: oneOf(rnd, "", text()), Ename: text(), Oldtag: uint16(num()),
		Fid: num(), Newfid: num(), Mode: uint8(num()), Iounit: num(), Name: text(), Perm: num(), Offset: rnd.Uint64() >> rnd.Intn(64), Count: num(), Data: make([]byte, oneOf(rnd, 0, 10, 600, 70000)),
		Stat: api.Stat{Type: math.MaxUint16, Dev: math.MaxUint32, Qid: api.Qid{Kind: 255, Vers: math.MaxUint32, Path: math.MaxUint64}, Mode: num(), Atime: math.MaxUint32, Mtime: num(), Length: rnd.Uint64() >> rnd.Intn(64), Name: text(), Gid: text()},
	}
	for range rnd.Intn(5) {
		m.Names = append(m.Names, text())
		m.Qids = append(m.Qids, api.Qid{Path: rnd.Uint64()})
	}
	if rnd.Intn(20) == 0 {
		m.Kind = api.Kind(rnd.Intn(256))
	}
	return m
}

// R1: nothing panics and all ends, whatever is handed in, of whichever connection; beside an error there is nothing. R5: the errors are those that the chapter names.
func TestAnything(t *testing.T) {
	t.Parallel()
	rnd := rand.New(rand.NewSource(40))
	for range 100 {
		s, _ := solo.New(someConfig(rnd))
		for range 300 {
			conn := oneOf(rnd, 1, 1, 1, 2, 3, 17, 0, -1, math.MinInt, math.MaxInt)
			switch rnd.Intn(8) {
			case 0:
				if n, e := s.Open(); e != api.OK && (e != api.ErrSrvConns || n != 0) || e == api.OK && n < 1 {
					t.Fatalf("Open: %d, %d", n, e)
				}
			case 1:
				b := make([]byte, rnd.Intn(300))
				rnd.Read(b)
				if told, e := s.Feed(conn, b); e != api.OK && (len(told) > 0 || e != api.ErrSrvConn && e != api.ErrClosed) {
					t.Fatalf("Feed: %x, %d", told, e)
				}
			case 2:
				if e := s.Close(oneOf(rnd, conn, conn, 0)); e != api.OK && e != api.ErrSrvConn && e != api.ErrClosed {
					t.Fatalf("Close: %d", e)
				}
			case 3:
				s.Tick(rnd.Uint32() >> rnd.Intn(32))
				s.Nodes()
				s.Fids(conn)
				s.Content(rnd.Uint64() >> rnd.Intn(64))
			default:
				q := wildMsg(rnd)
				r, e := s.Port(conn).Ask(q)
				known := e == api.OK || e == api.ErrMsgArg || e == api.ErrSrvConn || e == api.ErrClosed || e == api.ErrClientDown
				if !known || e != api.OK && !same(r, api.Msg{}) || e == api.OK && (r.Tag != q.Tag || r.Kind != q.Kind+1 && (r.Kind != api.Rerror || r.Ename == "error" || r.Ename == "")) {
					t.Fatalf("%s: %s, %d", shown(q), shown(r), e)
				}
			}
		}
	}
}

func spoil(b []byte) {
	b = b[:cap(b)]
	for i := range b {
		b[i] = '!'
	}
}

// R2: what comes out is new memory, spare room too: of each call, each time that it is asked.
func TestComesOutNew(t *testing.T) {
	t.Parallel()
	rnd := rand.New(rand.NewSource(41))
	for range 25 {
		p := withConns(t, someConfig(rnd), 2)
		for range 200 {
			s := somebody{rnd, p.m.w, 1 + rnd.Intn(2)}
			f := s.frame()
			p.m.feed(s.conn, f)
			b, _ := p.s.Feed(s.conn, f)
			spoil(b)
			q := s.fitting()
			want, _ := p.m.ask(s.conn, q)
			r, _ := p.s.Port(s.conn).Ask(q)
			if !same(r, want) {
				failf(t, "%s: %s, want %s", shown(q), shown(r), shown(want))
			}
			spoil(r.Data)
			for i := range r.Qids[:cap(r.Qids)] {
				r.Qids[:cap(r.Qids)][i] = api.Qid{Kind: 99}
			}
			nodes, fids := p.s.Nodes(), p.s.Fids(s.conn)
			for _, n := range nodes {
				spoil(p.s.Content(n.Path))
			}
			for i := range nodes[:cap(nodes)] {
				nodes[:cap(nodes)][i] = api.Node{}
			}
			for i := range fids {
				spoil(fids[i].Fid.Talk.Heard)
			}
			for i := range fids[:cap(fids)] {
				fids[:cap(fids)][i] = api.FidAt{}
			}
			p.wantSame(t)
		}
	}
}

// R2: nothing that is handed in is written into, nor what stands behind it; and nothing is kept of it, also not of a frame that is not whole yet.
func TestHandedInStays(t *testing.T) {
	p := withSession(t, config())
	p.done(t, 1, aCreate(0, "x", 0666, 2))
	room := append(frameOf(aWrite(0, 0, "0123456789")), frameOf(aRead(0, 0, 100))...)
	was := slices.Clone(room)
	for _, n := range []int{1, 5, 20, 30} {
		p.feed(t, 1, room[:n])
		if !bytes.Equal(room, was) {
			t.Errorf("%x, was %x", room, was)
		}
		spoil(room)
		copy(room, was)
		p.feed(t, 1, room[n:40])
		spoil(room)
		copy(room, was)
		b, e := p.feed(t, 1, room[40:])
		if l := replies(b); e != api.OK || len(l) != 1 || string(l[0].Data) != "0123456789" {
			t.Errorf("%+v, %d", l, e)
		}
	}
	data := []byte("abcdef, and spare room")
	names := []string{"..", "x", "spare"}
	q := aWrite(0, 0, "")
	q.Data = data[:6]
	p.ask(t, 1, q)
	q = aWalk(9, 40)
	q.Names = names[:2]
	p.ask(t, 1, q)
	if string(data) != "abcdef, and spare room" || !slices.Equal(names, []string{"..", "x", "spare"}) {
		t.Errorf("%q, %q", data, names)
	}
	spoil(data)
	clear(names)
	if b := p.s.Content(2); string(b) != "abcdef6789" {
		t.Errorf("%q", b)
	}
	p.wantSame(t)
}

// R2: a list of nothing may be nil or not.
func TestNilIsEmpty(t *testing.T) {
	p := withSession(t, config())
	for _, b := range [][]byte{nil, {}, make([]byte, 0, 9)} {
		if told, e := p.feed(t, 1, b); len(told) > 0 || e != api.OK {
			t.Errorf("%x, %d", told, e)
		}
		q := aWrite(0, 0, "")
		q.Data = b
		p.wantAsk(t, 1, q, refusal(8, api.ErrShut), api.OK)
	}
	for i, names := range [][]string{nil, {}, make([]string, 0, 9)} {
		p.wantAsk(t, 1, aWalk(0, 40+uint32(i), names...), api.Msg{Kind: api.Rwalk, Tag: 4}, api.OK)
	}
}

// R3: two servers of one configuration tell the same of the same, whatever is done to a third, and whatever is looked at between.
func TestSameAgain(t *testing.T) {
	rnd := rand.New(rand.NewSource(42))
	c := someConfig(rnd)
	one, other, third := withConns(t, c, 3), withConns(t, c, 3), withConns(t, c, 3)
	for range 600 {
		s := somebody{rnd, one.m.w, 1 + rnd.Intn(3)}
		f := s.frame()
		b, e := one.feed(t, s.conn, f)
		third.feed(t, 1+rnd.Intn(3), somebody{rnd, third.m.w, 1}.frame())
		third.tick(3)
		other.all()
		if again, againE := other.feed(t, s.conn, f); againE != e || !bytes.Equal(again, b) {
			failf(t, "%x: %x, %d; %x, %d", f, b, e, again, againE)
		}
		if !same(one.all(), other.all()) {
			failf(t, "%+v, %+v", one.all(), other.all())
		}
	}
}

// Nothing is kept in common from server to server: goroutines that have one each do not disturb one another.
func TestApart(t *testing.T) {
	var all sync.WaitGroup
	for seed := range int64(4) {
		rnd := rand.New(rand.NewSource(seed))
		p := withConns(t, someConfig(rnd), 2)
		all.Go(func() {
			for range 300 {
				s := somebody{rnd, p.m.w, 1 + rnd.Intn(2)}
				f := s.frame()
				want, wantE := p.m.feed(s.conn, f)
				if b, e := p.s.Feed(s.conn, f); e != wantE || !bytes.Equal(b, want) {
					t.Errorf("%x: %x, %d; want %x, %d", f, b, e, want, wantE)
				}
			}
		})
	}
	all.Wait()
}

// R4: nothing goes on when a call has answered.
func TestNoGoroutines(t *testing.T) {
	was := runtime.NumGoroutine()
	p := withSession(t, config())
	for _, q := range requests() {
		p.do(t, 1, q)
		p.ask(t, 2, q)
	}
	p.over(t, 1, sized(6))
	p.close(t, 2)
	if n := runtime.NumGoroutine(); n > was {
		t.Errorf("%d goroutines more", n-was)
	}
}
