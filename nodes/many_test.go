package nodes_test

import (
	"bytes"
	"math/rand"
	"slices"
	"strconv"
	"sync"
	"testing"

	"verger/api"
	"verger/nodes"
)

// One store, used by many goroutines at one time. What each does at one moment (line_test.go), and what hundreds of them come to.

const hands = 8

// together does one thing by many goroutines at one time, each with its number and its own source of numbers.
func together(many int, do func(hand int, rnd *rand.Rand)) {
	var all sync.WaitGroup
	begin := make(chan struct{})
	for hand := range many {
		all.Go(func() {
			<-begin
			do(hand, rand.New(rand.NewSource(int64(hand)+100)))
		})
	}
	close(begin)
	all.Wait()
}

// wantFine asks that an operation is not refused; for goroutines, which may not give up a test.
func wantFine(t *testing.T, s *nodes.Store, o api.Op) uint64 {
	path, e := s.Do(o)
	if e != api.OK {
		t.Errorf("Do(%s): %d", opText(o), e)
	}
	return path
}

// What is counted is counted whole, on one node and on many.
func TestManyCount(t *testing.T) {
	p := withFile(t)
	together(hands, func(hand int, rnd *rand.Rand) {
		for range 2000 {
			wantFine(t, p.s, setting(2, api.MaskBump, api.Node{}))
			wantFine(t, p.s, opening(2, 2))
			wantFine(t, p.s, setting(uint64(rnd.Intn(3)+1), api.MaskBump, api.Node{}))
			wantFine(t, p.s, opening(2, -1))
		}
	})
	total := uint32(0)
	for n := range p.s.All() {
		total += n.Vers
	}
	if n, _ := p.s.Node(2); n.Opens != hands*2000 || total != 2*hands*2000 {
		t.Errorf("Opens %d, Vers of all %d", n.Opens, total)
	}
}

// Opens never come to less than none, nor to more than may be, whoever asks at that time.
func TestManyOpens(t *testing.T) {
	p := withFile(t)
	wantFine(t, p.s, opening(2, 3))
	var lock sync.Mutex
	fine := 0
	together(hands, func(int, *rand.Rand) {
		for range 1000 {
			if _, e := p.s.Do(opening(2, -1)); e == api.OK {
				lock.Lock()
				fine++
				lock.Unlock()
			} else if e != api.ErrNodeOpens {
				t.Errorf("%d", e)
			}
		}
	})
	if n, _ := p.s.Node(2); n.Opens != 0 || fine != 3 {
		t.Errorf("Opens %d, behind %d that were done", n.Opens, fine)
	}
}

// Nobody is told of half an operation: of fields that are set together, of bytes that are written together.
func TestManyWhole(t *testing.T) {
	p := withFile(t)
	wantFine(t, p.s, setting(2, 31<<1, api.Node{}))
	together(hands, func(hand int, rnd *rand.Rand) {
		name := strconv.Itoa(hand)
		data := bytes.Repeat([]byte{byte(hand)}, 256)
		for i := range 1500 {
			if hand%2 == 0 {
				wantFine(t, p.s, setting(2, api.MaskUid|api.MaskGid|api.MaskMuid|api.MaskAtime|api.MaskMtime, api.Node{Uid: name, Gid: name, Muid: name, Atime: uint32(i), Mtime: uint32(i)}))
				wantFine(t, p.s, writing(2, 256, data))
				continue
			}
			wantWhole(t, p.s)
			if i%10 == 0 {
				wantWhole(t, p.s.Clone())
			}
		}
	})
}

// wantWhole asks that the node 2 has one name in all its three fields, both times alike, and one byte in the whole of its second block.
func wantWhole(t *testing.T, s *nodes.Store) {
	whole := func(n api.Node) bool { return n.Uid == n.Gid && n.Uid == n.Muid && n.Atime == n.Mtime }
	if n, ok := s.Node(2); !ok || !whole(n) {
		t.Errorf("half of two: %+v", n)
	}
	for n := range s.All() {
		if n.Path == 2 && !whole(n) {
			t.Errorf("half of two: %+v", n)
		}
	}
	if b := s.Read(2, 256, 256); len(b) > 0 && !bytes.Equal(b, bytes.Repeat(b[:1], 256)) {
		t.Errorf("half of two: %x", b)
	}
}

// Each that makes gets a path that nobody else has, and each one's paths rise; no more are made than may be.
func TestManyMake(t *testing.T) {
	const most = 1500
	s := newStore(t, most)
	got := make([][]uint64, hands)
	together(hands, func(hand int, rnd *rand.Rand) {
		for i := 0; ; i++ {
			path, e := s.Do(making(1, strconv.Itoa(hand)+" "+strconv.Itoa(i), aFile))
			if e == api.ErrNodeFull {
				return
			}
			if e != api.OK {
				t.Errorf("%d", e)
			}
			got[hand] = append(got[hand], path)
		}
	})
	for _, l := range got {
		if !slices.IsSorted(l) {
			t.Error("a path behind a greater one")
		}
	}
	all := slices.Concat(got...)
	slices.Sort(all)
	if !slices.Equal(append([]uint64{1}, all...), paths(s)) || len(slices.Compact(all)) != most-1 || s.Next() != most+1 || s.Count() != most {
		t.Errorf("%d were made; Count %d, Next %d", len(all), s.Count(), s.Next())
	}
	wantTree(t, s, most)
}

// Of those who want one name at one time, one gets it.
func TestManyOneName(t *testing.T) {
	s := newStore(t, 100)
	for i := range 200 {
		var lock sync.Mutex
		var got []uint64
		together(hands, func(hand int, rnd *rand.Rand) {
			path, e := s.Do(making(1, "name", aFile))
			lock.Lock()
			defer lock.Unlock()
			if e == api.OK {
				got = append(got, path)
			} else if e != api.ErrNodeTwice {
				t.Errorf("%d", e)
			}
		})
		if len(got) != 1 {
			t.Fatalf("%d got the name", len(got))
		}
		if child, _ := s.Child(1, "name"); child != got[0] {
			t.Fatalf("the child is %d, made was %d", child, got[0])
		}
		if i%2 == 0 {
			wantFine(t, s, dropping(got[0]))
		} else {
			wantFine(t, s, naming(got[0], strconv.Itoa(i)))
			wantFine(t, s, dropping(got[0]))
		}
	}
}

// Everybody does everything, to all nodes: it is a tree in the end, and in each clone on the way; whoever is there all the time is told once by each range.
func TestManyAll(t *testing.T) {
	for round := range 12 {
		p := grown(t, rand.New(rand.NewSource(int64(round)+20)), 25, 150)
		stays := []uint64{1}
		for _, name := range []string{"stays 1", "stays 2"} {
			if path, e := p.do(t, making(1, name, aDir)); e == api.OK {
				stays = append(stays, path)
			}
		}
		together(hands, func(hand int, rnd *rand.Rand) {
			m := p.m.clone()
			for range 200 {
				if o := m.someOp(rnd); !slices.Contains(stays, o.Path) || o.Kind != api.OpDrop {
					p.s.Do(o)
				}
				p.s.Read(m.somePath(rnd), 0, 1000)
				p.s.After(m.somePath(rnd), 0)
				p.s.Child(m.somePath(rnd), someName(rnd))
				p.s.Node(m.somePath(rnd))
				wantOnce(t, paths(p.s), stays)
				if rnd.Intn(20) == 0 {
					wantTree(t, p.s.Clone(), 25)
				}
			}
		})
		wantTree(t, p.s, 25)
	}
}

// wantOnce asks that paths that All told rise, and that these are among them.
func wantOnce(t *testing.T, told, stays []uint64) {
	for i, path := range told {
		if i > 0 && path <= told[i-1] {
			t.Errorf("All: %v", told)
		}
	}
	for _, path := range stays {
		if !slices.Contains(told, path) {
			t.Errorf("All: %v; %d was there all the time", told, path)
		}
	}
}

// A clone is of one moment: of two nodes of which somebody changes now the one, now the other, it is never behind with the one, nor ahead by more than once.
func TestManyClone(t *testing.T) {
	p := newPair(t, 60)
	for i := range 40 {
		p.wantDo(t, making(1, strconv.Itoa(i), aFile), uint64(i)+2)
	}
	together(hands, func(hand int, rnd *rand.Rand) {
		one, other := uint64(hand)+2, 41-uint64(hand)
		for range 2000 {
			wantFine(t, p.s, setting(one, api.MaskBump, api.Node{}))
			wantFine(t, p.s, setting(other, api.MaskBump, api.Node{}))
			if hand > 2 && rnd.Intn(10) == 0 {
				wantEven(t, p.s.Clone())
			}
		}
	})
	wantEven(t, p.s)
}

func wantEven(t *testing.T, s *nodes.Store) {
	for hand := range uint64(hands) {
		one, _ := s.Node(hand + 2)
		other, _ := s.Node(41 - hand)
		if ahead := one.Vers - other.Vers; ahead > 1 {
			t.Errorf("%d is ahead of %d by %d", one.Path, other.Path, int32(ahead))
		}
	}
}

// Of a great file, too: of two blocks of which somebody writes now the one, now the other, a clone is never behind with the one, nor ahead by more than once.
func TestManyCloneFile(t *testing.T) {
	p := withFile(t)
	p.fill(t, 2, 65536)
	wantFine(t, p.s, writing(2, 0, []byte{0}))
	wantFine(t, p.s, writing(2, 65535, []byte{0}))
	together(hands, func(hand int, rnd *rand.Rand) {
		for i := range 400 {
			if hand == 0 {
				for range 10 {
					wantFine(t, p.s, writing(2, 0, []byte{byte(i + 1)}))
					wantFine(t, p.s, writing(2, 65535, []byte{byte(i + 1)}))
				}
				continue
			}
			c := p.s.Clone()
			first, last := c.Read(2, 0, 1), c.Read(2, 65535, 1)
			if len(first) != 1 || len(last) != 1 || first[0]-last[0] > 1 {
				t.Errorf("%x, and %x", first, last)
			}
		}
	})
}

// Who goes through a directory by After is told of each child that is there all the time, whatever is made, named and dropped beside.
func TestManyAfter(t *testing.T) {
	p := newPair(t, 1000)
	var stays []uint64
	for i := range 300 {
		path, _ := p.do(t, making(1, strconv.Itoa(i), aFile))
		stays = append(stays, path)
	}
	together(hands, func(hand int, rnd *rand.Rand) {
		if hand%2 == 0 {
			for i := range 2000 {
				name := strconv.Itoa(hand) + " " + strconv.Itoa(i)
				path := wantFine(t, p.s, making(1, name, aFile))
				wantFine(t, p.s, naming(path, name+" "))
				wantFine(t, p.s, dropping(path))
			}
			return
		}
		for range 100 {
			var told []uint64
			for path, ok := p.s.After(1, 0); ok && len(told) < 10000; path, ok = p.s.After(1, path) {
				told = append(told, path)
			}
			wantOnce(t, told, stays)
			if n, _ := p.s.Node(1); n.Kids < len(stays) || n.Kids > len(stays)+hands {
				t.Errorf("Kids %d", n.Kids)
			}
		}
	})
}
