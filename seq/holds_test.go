package seq_test

import (
	"bytes"
	"math/rand"
	"slices"
	"testing"

	"verger/api"
	"verger/rules"
	"verger/seq"
	"verger/stat"
)

// The chapter's decisions and its section "What holds": for requests of all sorts, in whatever order.

// The world does as the model, and tells as it does; each error of each kind is told often enough to have been held to it.
func TestLikeTheModel(t *testing.T) {
	t.Parallel()
	rnd := rand.New(rand.NewSource(1))
	told := map[api.Kind]map[string]int{}
	for kind := range 256 {
		told[api.Kind(kind)] = map[string]int{}
	}
	for range 250 {
		p := newPair(t, someConfig(rnd))
		for range 300 {
			conn, q := p.m.someRequest(rnd)
			told[q.Kind][p.do(t, conn, q).Ename]++
			p.tick(uint32(rnd.Intn(3)))
		}
		p.wantSame(t)
	}
	fid := []api.Errno{api.ErrMsgBody, api.ErrFidBad, api.ErrFidUsed, api.ErrFidFull}
	node := []api.Errno{api.ErrFid, api.ErrAuth, api.ErrGone}
	for kind, errs := range map[api.Kind][]api.Errno{
		api.Tversion: {api.ErrMsgBody, api.ErrMsize},
		api.Tauth:    append(fid, api.ErrUser, api.ErrAuth, api.ErrTree),
		api.Tattach:  append(fid, api.ErrSession, api.ErrUser, api.ErrTree, api.ErrAuth, api.ErrFid),
		api.Twalk:    slices.Concat(fid, node, []api.Errno{api.ErrOpen, api.ErrNotDir, api.ErrPerm, api.ErrNone}),
		api.Topen:    append(node, api.ErrOpen, api.ErrMode, api.ErrIsDir, api.ErrPerm, api.ErrExcl),
		api.Tcreate:  append(node, api.ErrOpen, api.ErrNotDir, api.ErrName, api.ErrMode, api.ErrIsDir, api.ErrPerm, api.ErrExists, api.ErrNodeFull),
		api.Tread:    {api.ErrFid, api.ErrAuthKey, api.ErrGone, api.ErrShut, api.ErrPlace, api.ErrSmall},
		api.Twrite:   {api.ErrFid, api.ErrAuthText, api.ErrAuthOver, api.ErrGone, api.ErrShut, api.ErrBig},
		api.Tclunk:   {api.ErrFid},
		api.Tremove:  append(node, api.ErrPerm, api.ErrNotEmpty),
		api.Tstat:    node,
		api.Twstat:   append(node, api.ErrWstat, api.ErrPerm, api.ErrMode, api.ErrIsDir, api.ErrName, api.ErrExists, api.ErrGroup),
	} {
		if told[kind][""] < 100 {
			t.Errorf("%d was done %d times", kind, told[kind][""])
		}
		for _, e := range errs {
			if told[kind][e.Error()] < 3 {
				t.Errorf("%d was refused by %d %d times", kind, e, told[kind][e.Error()])
			}
		}
	}
}

// named are the locks of a foot, and whether each is needed alone.
type named map[api.Lock]bool

func namesOf(l []api.Need) named {
	of := named{}
	for _, n := range l {
		of[n.Lock] = n.Alone
	}
	return of
}

func (n named) fid(conn int, num uint32) bool {
	_, is := n[api.Lock{Kind: api.LockFid, Conn: conn, Num: uint64(num)}]
	return is
}

func (n named) node(path uint64) bool {
	_, is := n[api.Lock{Kind: api.LockNode, Num: path}]
	return is
}

func (n named) fidAlone(conn int, num uint32) bool {
	return n[api.Lock{Kind: api.LockFid, Conn: conn, Num: uint64(num)}]
}

func (n named) nodeAlone(path uint64) bool { return n[api.Lock{Kind: api.LockNode, Num: path}] }

// disturb changes something of a world that is not among what the foot of a request names, nor one of the four counts: whether it is another one then.
func disturb(rnd *rand.Rand, w *seq.World, of named, conn int, kind api.Kind, conns []int) bool {
	was := allOf(w, conns)
	disturbFids(rnd, w, of, conn)
	n := oneOf(rnd, w.Nodes()...)
	o := someOp(rnd)
	o.Path = n.Path
	counts, moves := o.Kind == api.OpMake || o.Kind == api.OpDrop, o.Kind == api.OpDrop || o.Kind == api.OpName
	if !of.node(n.Path) && !(counts && kind == api.Tcreate) && !(moves && of.node(n.Parent)) {
		w.Apply(conn, api.Piece{Kind: api.PieceOp, Op: o})
	}
	return !sameAll(was, allOf(w, conns))
}

// disturbFids makes a fid that is not named another one; at another connection one may be made, or go, too.
func disturbFids(rnd *rand.Rand, w *seq.World, of named, conn int) {
	other := oneOf(rnd, conn, 1, 2, -3)
	f := api.Fid{State: oneOf[api.FidState](rnd, shut, open, talks), Node: uint64(rnd.Intn(9)), User: "bob", Remove: true, Told: 59, Talk: api.Talk{User: "eve", Step: api.TalkDone}}
	if l := w.Fids(other); len(l) > 0 && rnd.Intn(3) > 0 {
		num := oneOf(rnd, l...).Num
		if other != conn && rnd.Intn(2) > 0 {
			w.Apply(other, gone(num))
		} else if !of.fid(other, num) {
			w.Apply(other, stands(num, f))
		}
	} else if other != conn {
		w.Apply(other, stands(someNum(rnd), f))
	}
}

// Foot is enough: what is done to anything that it does not name changes neither what a request comes to, nor Foot.
func TestFootIsEnough(t *testing.T) {
	t.Parallel()
	rnd := rand.New(rand.NewSource(5))
	disturbed := map[api.Kind]int{}
	for range 250 {
		p := grown(t, rnd, 100)
		for range 12 {
			conn, q := p.m.someRequest(rnd)
			if p.w.Msize(conn) == 0 {
				continue
			}
			needs, plan := p.w.Foot(conn, q), p.w.Decide(conn, q)
			c := p.w.Clone()
			for range 20 {
				if disturb(rnd, c, namesOf(needs), conn, q.Kind, p.conns) {
					disturbed[q.Kind]++
				}
			}
			if l := c.Foot(conn, q); !slices.Equal(l, needs) {
				failf(t, "Foot(%d, %s): %s; disturbed: %s\n%s", conn, shown(q), shown(needs), shown(l), shown(allOf(p.w, p.conns)))
			}
			if again := c.Decide(conn, q); !same(again, plan) {
				failf(t, "Decide(%d, %s): %s; disturbed: %s\n%s", conn, shown(q), shown(plan), shown(again), shown(allOf(p.w, p.conns)))
			}
		}
	}
	for kind := api.Tauth; kind <= api.Twstat; kind += 2 {
		if kind != api.Terror && disturbed[kind] < 200 {
			t.Errorf("%d: disturbed %d times", kind, disturbed[kind])
		}
	}
}

// changedIn are the paths of the nodes that are others in two worlds, or not there in one of them.
func changedIn(a, b *seq.World) []uint64 {
	var l []uint64
	was, is := map[uint64]api.Node{}, map[uint64]api.Node{}
	for _, n := range a.Nodes() {
		was[n.Path] = n
	}
	for _, n := range b.Nodes() {
		is[n.Path] = n
		if was[n.Path] != n || !bytes.Equal(a.Content(n.Path), b.Content(n.Path)) {
			l = append(l, n.Path)
		}
	}
	for path := range was {
		if is[path].Path == 0 {
			l = append(l, path)
		}
	}
	return l
}

// Pieces stay within the foot: behind the decision nothing is changed but nodes that it names alone, and nothing told but what it names; the decision itself changes fids and nodes that it names alone, of these Kids and Opens, and makes a node.
func TestPiecesStayWithin(t *testing.T) {
	t.Parallel()
	rnd := rand.New(rand.NewSource(6))
	pieces := map[api.PieceKind]int{}
	for range 250 {
		p := grown(t, rnd, 100)
		for range 30 {
			conn, q := p.m.someRequest(rnd)
			if q.Kind == api.Tversion {
				continue
			}
			of, plan := namesOf(p.w.Foot(conn, q)), p.w.Decide(conn, q)
			was, c := p.w.Clone(), p.w.Clone()
			for _, piece := range plan.Now {
				c.Apply(conn, piece)
			}
			nowWithin(t, q, of, conn, was, c)
			for _, piece := range plan.Pieces {
				pieces[piece.Kind]++
				was = c.Clone()
				c.Apply(conn, piece)
				laterWithin(t, q, of, piece, was, c, p.conns)
			}
			p.do(t, conn, q)
		}
	}
	for _, kind := range []api.PieceKind{api.PieceOp, api.PieceRead, api.PieceRecord} {
		if pieces[kind] < 30 {
			t.Errorf("%d pieces of kind %d", pieces[kind], kind)
		}
	}
}

func nowWithin(t *testing.T, q api.Msg, of named, conn int, was, is *seq.World) {
	t.Helper()
	next := uint64(0)
	for _, n := range was.Nodes() {
		next = max(next, n.Path)
	}
	olds := map[uint64]api.Node{}
	for _, n := range was.Nodes() {
		olds[n.Path] = n
	}
	for _, path := range changedIn(was, is) {
		if path <= next && !of.nodeAlone(path) {
			failf(t, "%s changes node %d now; of %v", shown(q), path, of)
		}
	}
	for _, n := range is.Nodes() {
		old, known := olds[n.Path]
		old.Kids, old.Opens = n.Kids, n.Opens
		if known && old != n {
			failf(t, "%s changes of node %d more than Kids and Opens now: %+v", shown(q), n.Path, n)
		}
	}
	for _, other := range []int{1, 2, -3} {
		mine := func(f api.FidAt) bool { return other == conn && of.fidAlone(conn, f.Num) }
		if a, b := slices.DeleteFunc(was.Fids(other), mine), slices.DeleteFunc(is.Fids(other), mine); !same(a, b) || was.Msize(other) != is.Msize(other) {
			failf(t, "%s changes fids of %d: %s, %s", shown(q), other, shown(a), shown(b))
		}
	}
}

func laterWithin(t *testing.T, q api.Msg, of named, piece api.Piece, was, is *seq.World, conns []int) {
	t.Helper()
	tells := piece.Kind == api.PieceRead || piece.Kind == api.PieceRecord
	if tells && !of.node(piece.Op.Path) || !tells && (piece.Kind != api.PieceOp || !of.nodeAlone(piece.Op.Path)) {
		failf(t, "%s comes to the piece %s; of %v", shown(q), shown(piece), of)
	}
	for _, path := range changedIn(was, is) {
		if !of.nodeAlone(path) {
			failf(t, "%s changes node %d by %s", shown(q), path, shown(piece))
		}
	}
	if a, b := allOf(was, conns), allOf(is, conns); !sameTalks(a.talks, b.talks) || a.now != b.now || len(a.nodes) != len(b.nodes) {
		failf(t, "%s changes more than a node by %s", shown(q), shown(piece))
	}
}

// All or nothing: a refused request changes nothing, but that a Tremove's fid is no more; and it plans nothing else.
func TestRefusedIsNothing(t *testing.T) {
	t.Parallel()
	rnd := rand.New(rand.NewSource(7))
	refused := 0
	for range 50 {
		p := newPair(t, someConfig(rnd))
		for range 200 {
			conn, q := p.m.someRequest(rnd)
			was, plan := allOf(p.w, p.conns), p.w.Decide(conn, q)
			r := p.do(t, conn, q)
			if r.Kind != api.Rerror {
				continue
			}
			refused++
			is := allOf(p.w, p.conns)
			if q.Kind == api.Tremove {
				is.talks[conn], was.talks[conn] = without(is.talks[conn], q.Fid), without(was.talks[conn], q.Fid)
				for i := range is.nodes {
					is.nodes[i].Opens, was.nodes[i].Opens = 0, 0
				}
			}
			if !sameAll(was, is) || len(plan.Pieces) > 0 || len(plan.Now) > 0 && q.Kind != api.Tremove {
				failf(t, "%s was refused: %s; ahead of it %s; %s", shown(q), shown(is), shown(was), shown(plan))
			}
		}
	}
	if refused < 1000 {
		t.Errorf("%d refused", refused)
	}
}

func without(k talk, num uint32) talk {
	k.fids = slices.Clone(k.fids)
	k.drop(num)
	return k
}

// Opens are counted: each node's are how many fids, of all connections, are open at it; of one in exclusive use one at most, if nobody made it so while it was open.
func TestOpensAreCounted(t *testing.T) {
	t.Parallel()
	rnd := rand.New(rand.NewSource(8))
	exclusive := 0
	for range 150 {
		p := newPair(t, someConfig(rnd))
		for range 200 {
			conn, q := p.m.someRequest(rnd)
			if q.Kind == api.Twstat {
				q.Stat.Mode = stat.Keep().Mode
			}
			p.w.Do(conn, q)
			p.m.do(conn, q)
			opens := map[uint64]int{}
			for _, at := range p.conns {
				for _, f := range p.w.Fids(at) {
					if f.Fid.State == open {
						opens[f.Fid.Node]++
					}
				}
			}
			for _, n := range p.w.Nodes() {
				if n.Opens != opens[n.Path] || n.Mode&exclBit > 0 && n.Opens > 1 {
					failf(t, "behind %s: %+v; open are %d", shown(q), n, opens[n.Path])
				}
				if n.Mode&exclBit > 0 && n.Opens > 0 {
					exclusive++
				}
			}
		}
	}
	if exclusive < 100 {
		t.Errorf("a node in exclusive use was open %d times", exclusive)
	}
}

// A directory's reading tells each child that was there all the time once, and none twice, whatever is made, removed and renamed meanwhile.
func TestReadingOfDirectories(t *testing.T) {
	t.Parallel()
	rnd := rand.New(rand.NewSource(9))
	for range 100 {
		c := config()
		c.Nodes, c.Perm = 60, 0777
		p := withSession(t, c)
		for range rnd.Intn(20) {
			turnDirectory(rnd, p)
		}
		p.w.Do(1, aWalk(annRoot, 50))
		p.w.Do(1, anOpen(50, 0))
		stays, told, offset := kidsOf(p.w), map[uint64]int{}, uint64(0)
		for {
			r := p.w.Do(1, aRead(50, offset, uint32(oneOf(rnd, 60, 100, 130, 300, 1000))))
			if r.Kind == api.Rerror {
				continue // the count was too small
			}
			l, _ := stat.Records(r.Data)
			for _, s := range l {
				told[s.Qid.Path]++
			}
			if offset += uint64(len(r.Data)); len(l) == 0 {
				break
			}
			for range rnd.Intn(4) {
				turnDirectory(rnd, p)
			}
			for path := range stays {
				if !kidsOf(p.w)[path] {
					delete(stays, path)
				}
			}
		}
		for path, times := range told {
			if times > 1 {
				t.Errorf("%d was told %d times", path, times)
			}
		}
		for path := range stays {
			if told[path] != 1 {
				t.Errorf("%d was told %d times", path, told[path])
			}
		}
	}
}

func kidsOf(w *seq.World) map[uint64]bool {
	l := map[uint64]bool{}
	for _, n := range w.Nodes() {
		if n.Parent == 1 && n.Path != 1 {
			l[n.Path] = true
		}
	}
	return l
}

// turnDirectory makes, removes or renames something in the root.
func turnDirectory(rnd *rand.Rand, p pair) {
	name := oneOf(rnd, "a", "b", "c", "d", "e", "f", "g", "h", "i", "j", "some longer name", "an even longer name than that")
	switch rnd.Intn(6) {
	case 0:
		p.w.Do(1, aWalk(annRoot, 60, name))
		p.w.Do(1, aRemove(60))
	case 1:
		p.w.Do(1, aWalk(annRoot, 60, name))
		p.w.Do(1, aWstat(60, func(s *api.Stat) { s.Name = someName(rnd) }))
	default:
		p.w.Do(1, aWalk(annRoot, 60))
		p.w.Do(1, aCreate(60, name, 0666, 0))
	}
	p.w.Do(1, aClunk(60))
}

// What was written is read: whatever others do that neither write that file, nor cut it, nor change it by Twstat.
func TestWrittenIsRead(t *testing.T) {
	t.Parallel()
	rnd := rand.New(rand.NewSource(10))
	for range 60 {
		c := someConfig(rnd)
		c.Perm, c.Owner, c.Nodes, c.Msize = 0777, "ann", 20, 8192
		p := newPair(t, c)
		const mine, at = 4, 5 // a connection of whom the others know nothing, and its fid
		p.w.Do(mine, aVersion(8192))
		p.w.Do(mine, anAttach(at, "ann"))
		p.m.do(mine, aVersion(8192))
		p.m.do(mine, anAttach(at, "ann"))
		p.do(t, mine, aCreate(at, "mine", 0600, 2))
		path := p.w.Fids(mine)[0].Fid.Node
		data, offset := someData(rnd), someOffset(rnd)%60000
		p.do(t, mine, aWrite(at, offset, string(data)))
		for range 150 {
			conn, q := p.m.someRequest(rnd)
			if f := p.m.on(conn).fid(q.Fid); f.Node == path && f.User == "ann" && (q.Kind == api.Twrite || q.Kind == api.Topen || q.Kind == api.Twstat) {
				continue
			}
			p.w.Do(conn, q)
			p.m.do(conn, q)
			if n := p.m.node(path); n.Path == 0 {
				break // it was removed
			}
			if r := p.w.Do(mine, aRead(at, offset, uint32(len(data)))); !bytes.Equal(r.Data, data) {
				failf(t, "behind %s: %+v, want %q", shown(q), r, data)
			}
		}
	}
}

// A session's end is its clunks: behind Leave its fids are no more, and of any other session nothing is another one.
func TestEndIsClunks(t *testing.T) {
	t.Parallel()
	rnd := rand.New(rand.NewSource(11))
	for range 150 {
		p := grown(t, rnd, 150)
		conn := oneOf(rnd, 1, 2, -3)
		c := p.clone()
		p.w.Leave(conn)
		p.m.ends(conn)
		p.wantSame(t)
		for _, q := range c.w.Ends(conn) {
			if r := c.w.Do(conn, q); r.Kind != api.Rclunk {
				t.Errorf("%+v: %+v", q, r)
			}
		}
		clunked, left := allOf(c.w, p.conns), allOf(p.w, p.conns)
		clunked.talks[conn] = talk{}
		if !sameAll(clunked, left) || p.w.Msize(conn) != 0 || len(p.w.Fids(conn)) > 0 {
			failf(t, "%s, want %s", shown(left), shown(clunked))
		}
	}
}

// Nobody is told a byte, or changes one, that the rights do not give them: what is opened is wanted of the rights.
func TestRightsHold(t *testing.T) {
	t.Parallel()
	rnd := rand.New(rand.NewSource(12))
	for range 100 {
		p := grown(t, rnd, 150)
		for _, conn := range p.conns {
			for _, f := range p.w.Fids(conn) {
				for mode := range uint8(4) {
					q := anOpen(f.Num, mode)
					r := p.clone().do(t, conn, q)
					n := p.m.node(f.Fid.Node)
					wants, _ := rules.Wants(mode)
					if r.Kind == api.Ropen && rules.Rights(p.m.u, f.Fid.User, n)&wants != wants {
						t.Errorf("%s opens %+v by %d", f.Fid.User, n, mode)
					}
				}
			}
		}
	}
}
