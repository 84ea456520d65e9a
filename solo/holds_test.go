package solo_test

import (
	"bytes"
	"math/rand"
	"testing"

	"verger/api"
	"verger/msg"
)

// A server does at each call what the plain model does, whatever the calls are; over them each kind of request is done and refused by many errors.
func TestAsTheModel(t *testing.T) {
	t.Parallel()
	rnd := rand.New(rand.NewSource(1))
	told, ends := map[api.Kind]int{}, 0
	why := map[string]int{}
	for range 100 {
		p := withConns(t, someConfig(rnd), 2)
		for range 500 {
			conn := 1 + rnd.Intn(1+rnd.Intn(len(p.m.lines)+1))
			switch rnd.Intn(600) {
			case 0, 1, 2:
				p.open(t)
			case 3:
				p.close(t, conn)
			case 4:
				p.feed(t, conn, append(somebody{rnd, p.m.w, conn}.frame(), badSize(rnd)...))
			case 5:
				p.feed(t, conn, make([]byte, rnd.Intn(4)))
				p.feed(t, conn, somebody{rnd, p.m.w, conn}.frame())
			default:
				b, e := p.feed(t, conn, somebody{rnd, p.m.w, conn}.frame())
				if e == api.ErrClosed {
					ends++
				}
				for _, r := range replies(b) {
					told[r.Kind]++
					why[r.Ename]++
				}
			}
			p.tick(uint32(rnd.Intn(3)))
			if rnd.Intn(20) == 0 {
				p.wantSame(t)
			}
		}
		p.wantSame(t)
	}
	for kind := api.Rversion; kind <= api.Rwstat; kind += 2 {
		if told[kind] < 50 {
			t.Errorf("%d was answered %d times", kind, told[kind])
		}
	}
	for _, e := range []api.Errno{
		api.ErrMsgKind, api.ErrMsgBody, api.ErrTag, api.ErrSession, api.ErrMsize, api.ErrFid, api.ErrFidBad, api.ErrFidUsed, api.ErrFidFull, api.ErrUser, api.ErrAuth, api.ErrAuthText, api.ErrAuthOver, api.ErrAuthKey,
		api.ErrGone, api.ErrOpen, api.ErrNone, api.ErrShut, api.ErrPlace, api.ErrSmall, api.ErrPerm, api.ErrMode, api.ErrIsDir, api.ErrNotDir, api.ErrExcl, api.ErrExists, api.ErrNotEmpty, api.ErrWstat, api.ErrBig, api.ErrGroup, api.ErrName, api.ErrNodeFull,
	} {
		if why[e.Error()] < 5 {
			t.Errorf("%s: told %d times", e.Error(), why[e.Error()])
		}
	}
	if ends < 1000 {
		t.Errorf("%d times it was asked of a connection that had ended", ends)
	}
}

// deed is a whole frame of a connection, or so many seconds.
type deed struct {
	conn  int
	frame []byte
	ticks uint32
}

// deeds are what a few connections do to a server, and all that is answered to it, by connection; each frame is fed whole.
func deeds(t *testing.T, rnd *rand.Rand, c api.Config, n int) ([]deed, [][]byte) {
	p := withConns(t, c, 3)
	l, told := []deed{}, make([][]byte, 4)
	for range n {
		d := deed{conn: 1 + rnd.Intn(3), ticks: uint32(rnd.Intn(3))}
		d.frame = somebody{rnd, p.m.w, d.conn}.frame()
		if rnd.Intn(150) == 0 {
			d.frame = badSize(rnd)
		}
		b, _ := p.feed(t, d.conn, d.frame)
		told[d.conn] = append(told[d.conn], b...)
		p.tick(d.ticks)
		l = append(l, d)
	}
	return l, told
}

// CHUNKS ARE NOT SEEN: wherever the bytes are cut, what is answered is the same: as long as each frame's last byte comes when it came, as to the seconds and to what others do.
func TestChunksAreNotSeen(t *testing.T) {
	t.Parallel()
	rnd := rand.New(rand.NewSource(2))
	for range 60 {
		c := someConfig(rnd)
		l, want := deeds(t, rnd, c, 200)
		p := withConns(t, c, 3)
		told, ahead := make([][]byte, 4), make([][]byte, 4) // of each connection's next bytes, those that were fed already
		for i, d := range l {
			for rest := d.frame[len(ahead[d.conn]):]; len(rest) > 0; {
				n := 1 + rnd.Intn(len(rest))
				b, _ := p.feed(t, d.conn, rest[:n])
				told[d.conn], rest = append(told[d.conn], b...), rest[n:]
			}
			ahead[d.conn] = nil
			p.tick(d.ticks)
			// Of a later frame of somebody some bytes come already, but not the last one.
			conn := 1 + rnd.Intn(3)
			if next := frameBehind(l[i+1:], conn); len(next) > 4 && len(ahead[conn]) == 0 {
				ahead[conn] = next[:rnd.Intn(len(next))]
				b, _ := p.feed(t, conn, ahead[conn])
				told[conn] = append(told[conn], b...)
			}
		}
		for conn := range want {
			if !bytes.Equal(told[conn], want[conn]) {
				failf(t, "%d is told %x in chunks, else %x", conn, told[conn], want[conn])
			}
		}
	}
}

// frameBehind is a connection's next frame.
func frameBehind(l []deed, conn int) []byte {
	for _, d := range l {
		if d.conn == conn {
			return d.frame
		}
	}
	return nil
}

// CHUNKS ARE NOT SEEN: all the bytes of one connection at once, and byte by byte.
func TestAllAtOnce(t *testing.T) {
	t.Parallel()
	rnd := rand.New(rand.NewSource(3))
	for range 40 {
		c := someConfig(rnd)
		p := withConns(t, c, 1)
		var all, told []byte
		for range 150 {
			f := somebody{rnd, p.m.w, 1}.frame()
			b, _ := p.feed(t, 1, f)
			all, told = append(all, f...), append(told, b...)
		}
		if rnd.Intn(2) == 0 {
			all = append(append(all, badSize(rnd)...), "and more"...)
			p.feed(t, 1, all[len(all)-12:])
		}
		for _, chunk := range []int{1, 2, 3, 4, 7, 11, 1 + rnd.Intn(2000), len(all)} {
			once := withConns(t, c, 1)
			var got []byte
			for rest := all; len(rest) > 0; {
				n := min(chunk, len(rest))
				b, _ := once.feed(t, 1, rest[:n])
				got, rest = append(got, b...), rest[n:]
			}
			if !bytes.Equal(got, told) || !same(once.all(), p.all()) {
				failf(t, "in chunks of %d: %x, want %x", chunk, got, told)
			}
		}
	}
}

// ONE FRAME, ONE REPLY, with its tag, in the frames' order: of the kind that answers it, or a refusal.
func TestOneReply(t *testing.T) {
	t.Parallel()
	rnd := rand.New(rand.NewSource(4))
	for range 80 {
		p := withConns(t, someConfig(rnd), 1)
		for range 40 {
			var frames [][]byte
			s := somebody{rnd, p.m.w, 1}
			for range rnd.Intn(8) {
				f := s.frame()
				if len(f) > api.MinMsize { // by a frame ahead the msize may come to be a lesser one
					f = frameOf(s.aboutNone())
				}
				frames = append(frames, f)
			}
			b, e := p.feed(t, 1, bytes.Join(frames, nil))
			l := replies(b)
			if e != api.OK || len(l) != len(frames) {
				failf(t, "%x: %d replies, %d", frames, len(l), e)
			}
			for i, f := range frames {
				kind, tag := api.Kind(f[4]), uint16(f[5])|uint16(f[6])<<8
				if l[i].Tag != tag || l[i].Kind != kind+1 && l[i].Kind != api.Rerror {
					failf(t, "%x: %s", f, shown(l[i]))
				}
			}
		}
	}
}

// WHAT IS NO GOOD REQUEST changes neither tree nor fids: of any bytes in a frame, in a session and out of it.
func TestNoGoodRequest(t *testing.T) {
	t.Parallel()
	rnd := rand.New(rand.NewSource(5))
	bad := 0
	for range 60 {
		p := withConns(t, someConfig(rnd), 2)
		for range 200 {
			conn := 1 + rnd.Intn(2)
			s := somebody{rnd, p.m.w, conn}
			f := s.frame()
			if rnd.Intn(4) == 0 { // noise, in a frame
				f = append(sized(7+rnd.Intn(100)), make([]byte, 103)...)[:7+rnd.Intn(100)]
				rnd.Read(f[4:])
				copy(f, sized(len(f)))
				f[4] = byte(oneOf(rnd, 100+rnd.Intn(28), int(f[4])))
			}
			was := p.all()
			b, _ := p.feed(t, conn, f)
			q, e := msg.Decode(f)
			wrongTag := (q.Kind == api.Tversion) != (q.Tag == api.NoTag)
			session := q.Kind == api.Tversion || p.m.w.Msize(conn) > 0
			if isRequest(int(q.Kind)) && e == api.OK && !wrongTag && session {
				continue
			}
			bad++
			if l := replies(b); len(l) != 1 || l[0].Kind != api.Rerror || !same(p.all(), was) {
				failf(t, "%x: %+v", f, l)
			}
		}
	}
	if bad < 2000 {
		t.Errorf("%d were no good requests", bad)
	}
}

// Whatever bytes come: nothing panics, and what can't be cut ends its connection alone.
func TestAnyBytes(t *testing.T) {
	t.Parallel()
	rnd := rand.New(rand.NewSource(6))
	ends := 0
	for range 200 {
		p := withSession(t, config())
		p.done(t, 2, aVersion(600))
		p.done(t, 2, anAttach(0, "ann"))
		for range 10 {
			b := make([]byte, rnd.Intn(200))
			rnd.Read(b)
			if len(b) > 4 && rnd.Intn(2) > 0 {
				copy(b, sized(rnd.Intn(len(b))))
			}
			if _, e := p.feed(t, 1, b); e == api.ErrClosed {
				ends++
			}
		}
		p.wantSame(t)
		p.done(t, 2, aStat(0))
	}
	if ends < 500 {
		t.Errorf("%d times behind an end", ends)
	}
}

// Of a connection that ended nothing is left, and whoever comes behind it begins anew.
func TestBeginsAnew(t *testing.T) {
	t.Parallel()
	rnd := rand.New(rand.NewSource(7))
	for range 40 {
		p := withConns(t, someConfig(rnd), 1)
		for range 20 {
			conn := len(p.m.lines)
			for range rnd.Intn(40) {
				p.feed(t, conn, somebody{rnd, p.m.w, conn}.frame())
			}
			p.feed(t, conn, make([]byte, rnd.Intn(4)))
			if rnd.Intn(2) > 0 {
				p.close(t, conn)
			} else {
				p.feed(t, conn, append(make([]byte, 4), badSize(rnd)...))
			}
			p.wantOver(t, conn)
			for _, n := range p.s.Nodes() {
				if n.Opens != 0 {
					t.Errorf("%+v is open yet", n)
				}
			}
			if n, e := p.open(t); n != conn+1 || e != api.OK {
				t.Errorf("Open() = %d, %d", n, e)
			}
			p.refused(t, conn+1, api.ErrSession, frameOf(aStat(0)))
		}
	}
}
