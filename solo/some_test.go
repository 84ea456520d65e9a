package solo_test

import (
	"fmt"
	"math"
	"math/rand"
	"slices"
	"strings"

	"verger/api"
	"verger/auth"
	"verger/msg"
	"verger/rules"
	"verger/seq"
	"verger/stat"
)

// Requests of all sorts, by chance: of what a world has, so that they are often not refused.

const (
	dirBit    = 0x80000000
	appendBit = 0x40000000
	exclBit   = 0x20000000
	tmpBit    = 0x04000000
)

// somebody is whoever asks, at a connection of a world.
type somebody struct {
	rnd  *rand.Rand
	w    *seq.World
	conn int
}

// often is so but once in so many times.
func (s somebody) often(of int) bool { return s.rnd.Intn(of) > 0 }

// someConfig is one of a small world, of people who belong to one another.
func someConfig(rnd *rand.Rand) api.Config {
	return api.Config{
		Users: "ann:::\nbob:::\neve:::k\nkim:::\nsys:bob:ann,eve:\n", Owner: oneOf(rnd, "ann", "bob"), Group: oneOf(rnd, "ann", "sys"), Perm: oneOf[uint32](rnd, 0777, 0777, 0777, 0775, 0755, 0700),
		Seed: rnd.Uint64(), Msize: oneOf[uint32](rnd, 512, 600, 8192, 65536), Fids: 3 + rnd.Intn(12), Tags: 1 + rnd.Intn(64), Nodes: 3 + rnd.Intn(20), Workers: 1 + rnd.Intn(16),
	}
}

// num is a number for a fid.
func (s somebody) num() uint32 {
	if s.often(30) {
		return uint32(s.rnd.Intn(25))
	}
	return oneOf[uint32](s.rnd, noFid, noFid-1, 1<<31, 65536)
}

// fid is one that there is, mostly; if there are such, one of a sort.
func (s somebody) fid(sort func(api.Fid) bool) api.FidAt {
	l := s.w.Fids(s.conn)
	such := slices.DeleteFunc(slices.Clone(l), func(f api.FidAt) bool { return !sort(f.Fid) })
	switch {
	case len(l) == 0 || !s.often(15):
		return api.FidAt{Num: s.num()}
	case len(such) > 0 && s.often(10):
		return oneOf(s.rnd, such...)
	}
	return oneOf(s.rnd, l...)
}

func isShut(f api.Fid) bool { return f.State == api.FidShut }

func isOpen(f api.Fid) bool { return f.State == api.FidOpen }

func isTalk(f api.Fid) bool { return f.State == api.FidAuth }

func reads(f api.Fid) bool { return isOpen(f) && f.Mode != 1 }

func writes(f api.Fid) bool { return isOpen(f) && (f.Mode == 1 || f.Mode == 2) }

// inDir tells whether a fid is shut at a directory.
func (s somebody) inDir(f api.Fid) bool { return isShut(f) && s.node(f.Node).Mode >= dirBit }

// holds tells whether a fid is at a directory that has children, and is not the root.
func (s somebody) holds(f api.Fid) bool { return f.Node > 1 && s.node(f.Node).Kids > 0 }

func (s somebody) node(path uint64) api.Node { return nodeOf(s.w, path) }

// nodeOf is a node; one of noughts, if there is none.
func nodeOf(l looks, path uint64) api.Node {
	for _, n := range l.Nodes() {
		if n.Path == path {
			return n
		}
	}
	return api.Node{}
}

func (s somebody) name() string {
	if s.often(25) {
		return oneOf(s.rnd, "a", "b", "c", "d", "e", "long, long, long, long", "é")
	}
	return oneOf(s.rnd, "", ".", "..", "x/y", strings.Repeat("n", 255), strings.Repeat("n", 256))
}

// names are such by which one can go on from a node, mostly.
func (s somebody) names(here uint64) []string {
	var l []string
	for range oneOf(s.rnd, 0, 1, 1, 1, 2, 3, s.rnd.Intn(17)) {
		name := oneOf(s.rnd, s.name(), "..")
		kids := slices.DeleteFunc(s.w.Nodes(), func(n api.Node) bool { return n.Parent != here || n.Path == 1 })
		if len(kids) > 0 && s.often(6) {
			kid := oneOf(s.rnd, kids...)
			name, here = kid.Name, kid.Path
		}
		l = append(l, name)
	}
	return l
}

func (s somebody) offset() uint64 {
	if s.often(15) {
		return uint64(s.rnd.Intn(4)*256 + oneOf(s.rnd, 0, 0, 1, 255, 100))
	}
	return oneOf[uint64](s.rnd, 65535, 65536, 1<<32, math.MaxUint64)
}

func (s somebody) data() []byte {
	b := make([]byte, oneOf(s.rnd, 0, 1, 5, 256, s.rnd.Intn(300), s.rnd.Intn(700)))
	s.rnd.Read(b)
	return b
}

func (s somebody) user() string { return oneOf(s.rnd, "ann", "bob", "eve", "sys", "kim", "joe", "") }

// turn is a change of a record.
func (s somebody) turn(n api.Node) api.Stat {
	want := oneOf(s.rnd, stat.Keep(), rules.Record(n))
	turns := []func(){
		func() { want.Mode = n.Mode ^ 1<<s.rnd.Intn(9) }, func() { want.Mode = n.Mode ^ oneOf[uint32](s.rnd, exclBit, appendBit, tmpBit, dirBit) },
		func() { want.Mtime = oneOf(s.rnd, 1, 2, n.Mtime) }, func() { want.Length = uint64(s.rnd.Intn(600)) },
		func() { want.Name = s.name() }, func() { want.Name = s.name() }, func() { want.Gid = s.user() }, func() { want.Gid = oneOf(s.rnd, "sys", "ann") },
		func() { want.Uid = s.user() },
	}
	for range s.rnd.Intn(3) {
		oneOf(s.rnd, turns...)()
	}
	return want
}

// request is one that can be written as a frame.
func (s somebody) request() api.Msg {
	if s.w.Msize(s.conn) == 0 && s.often(4) {
		return aVersion(oneOf[uint32](s.rnd, 512, 600, 8192, 100000))
	}
	var q api.Msg
	switch {
	case !isShut(s.fid(isShut).Fid) && s.often(3): // room, and somebody who can go on
		q = oneOf(s.rnd, anAttach(s.num(), oneOf(s.rnd, "ann", "bob", "sys", "kim")), aClunk(s.fid(isOpen).Num))
	case s.often(5):
		q = s.aboutFiles()
	default:
		q = oneOf(s.rnd, s.aboutUsers, s.aboutUsers, s.aboutNone)()
	}
	if q.Kind != api.Tversion {
		q.Tag = uint16(s.rnd.Intn(65535))
	}
	return q
}

func (s somebody) aboutFiles() api.Msg {
	any := s.fid(oneOf(s.rnd, isShut, isOpen, isTalk))
	among := func(sort func(api.Fid) bool) api.FidAt {
		return oneOf(s.rnd, any, s.fid(sort), s.fid(sort), s.fid(sort))
	}
	switch s.rnd.Intn(18) {
	case 0, 1, 2, 16, 17:
		from := among(isShut)
		return aWalk(from.Num, oneOf(s.rnd, s.num(), s.num(), s.num(), from.Num), s.names(from.Fid.Node)...)
	case 3, 4, 5:
		at := among(isShut)
		mode := oneOf[uint8](s.rnd, 0, 0, 1, 2, 3, 0x10, 0x11, 0x12, 0x40, 0x41, 0x52, uint8(s.rnd.Intn(256)))
		if s.node(at.Fid.Node).Mode >= dirBit && s.often(4) {
			mode = 0
		}
		return anOpen(at.Num, mode)
	case 6, 7, 8:
		return s.creates(among(s.inDir))
	case 9, 10:
		at := among(reads)
		return aRead(at.Num, oneOf(s.rnd, 0, 0, at.Fid.Told, at.Fid.Told, s.offset()), oneOf[uint32](s.rnd, 0, 1, 49, 60, 110, 300, 600, 65536, math.MaxUint32))
	case 11, 12:
		return aWrite(among(writes).Num, s.offset(), string(s.data()))
	case 13:
		return oneOf(s.rnd, aClunk(among(isOpen).Num), aClunk(any.Num), aRemove(any.Num), aRemove(s.fid(s.holds).Num))
	case 14:
		return aStat(any.Num)
	}
	at := among(isShut)
	return api.Msg{Kind: api.Twstat, Fid: at.Num, Stat: s.turn(s.node(at.Fid.Node))}
}

func (s somebody) creates(in api.FidAt) api.Msg {
	perm := oneOf[uint32](s.rnd, 0666, 0600, 0777, dirBit|0777, dirBit|0777, dirBit|0750, appendBit|0666, exclBit|0666, tmpBit|0640, 0, 1<<s.rnd.Intn(32))
	mode := oneOf[uint8](s.rnd, 0, 0, 1, 2, 2, 3, 0x40, 0x42, 0x12, uint8(s.rnd.Intn(256)))
	if perm >= dirBit && s.often(4) {
		mode = 0
	}
	return aCreate(in.Num, s.name(), perm, mode)
}

func (s somebody) aboutUsers() api.Msg {
	talk := s.fid(isTalk)
	switch s.rnd.Intn(8) {
	case 0:
		return anAuth(s.num(), oneOf(s.rnd, "eve", "eve", s.user()))
	case 1, 2:
		return aRead(talk.Num, s.offset(), oneOf[uint32](s.rnd, 0, 5, 100, 100))
	case 3, 4, 5:
		return aWrite(talk.Num, s.offset(), string(s.saying(talk.Fid.Talk)))
	case 6:
		return attachBy(s.num(), talk.Num, oneOf(s.rnd, "eve", s.user()))
	}
	return anAttach(s.num(), s.user())
}

// saying is some of what there is to be said at this step of an authentication; seldom something else.
func (s somebody) saying(said api.Talk) []byte {
	line, _ := auth.Answer(oneOf(s.rnd, "k", "k", "k", "key"), "eve", "", fmt.Appendf(nil, "verger1 %016x\n", said.Ours), 99)
	rest := line[min(len(said.Heard), len(line)):]
	if !s.often(20) {
		return append(rest, s.data()...)
	}
	return rest[:oneOf(s.rnd, len(rest), len(rest), s.rnd.Intn(len(rest)+1))]
}

func (s somebody) aboutNone() api.Msg {
	switch s.rnd.Intn(16) {
	case 0:
		return api.Msg{Kind: oneOf(s.rnd, api.Rversion, api.Rerror, api.Rclunk, api.Rwstat), Ename: "x"}
	case 1:
		q := aVersion(oneOf[uint32](s.rnd, 0, 511, 512, 513, 599, 8191, math.MaxUint32))
		q.Version = oneOf(s.rnd, "9P2000", "9P2000", "9P2000.u", "9P2000.", "9P2000x", "9P", "")
		return q
	}
	return aFlush(uint16(s.rnd.Intn(65536)))
}

// fitting is a request whose frame is not too long.
func (s somebody) fitting() api.Msg {
	q := s.request()
	if msg.Size(q) > s.most() {
		return aFlush(1)
	}
	return q
}

// frame is one of a request, mostly; or one that is no good request, of a right size.
func (s somebody) frame() []byte {
	f := frameOf(s.fitting())
	switch s.rnd.Intn(40) {
	case 0:
		f[4] = byte(s.rnd.Intn(256))
	case 1:
		copy(f[5:7], oneOf(s.rnd, "\xff\xff", "\xff\xfe", "\x00\x00"))
	case 2:
		f[s.rnd.Intn(len(f)-4)+4] ^= 1 << s.rnd.Intn(8)
	case 3:
		f = f[:7+s.rnd.Intn(len(f)-6)]
		copy(f, sized(len(f)))
	case 4:
		f = append(f, make([]byte, s.rnd.Intn(1+min(s.most()-len(f), 50)))...)
		copy(f, sized(len(f)))
	}
	return f
}

// most is how many bytes a frame may have; where there is no session, at least so many.
func (s somebody) most() int {
	return max(int(s.w.Msize(s.conn)), api.MinMsize)
}

// badSize is a beginning of a stream that can't be cut: of a size that no frame may have.
func badSize(rnd *rand.Rand) []byte {
	return sized(oneOf(rnd, 0, 1, 6, 65537, 1<<24, math.MaxUint32))
}
