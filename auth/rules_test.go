package auth_test

import (
	"bytes"
	"math"
	"math/rand"
	"runtime"
	"slices"
	"strings"
	"testing"

	"verger/api"
	"verger/auth"
	"verger/users"
)

// anyTalk is a Talk of whatever fields.
func anyTalk(rnd *rand.Rand) api.Talk {
	said := []int{0, 1, 16, 17, 18, 24, 25, 26, -1, math.MinInt, math.MaxInt, rnd.Int()}
	return api.Talk{User: oneOf(rnd, "eve", "", "nobody", someBytes(rnd, 5)), Tree: someBytes(rnd, 5), Ours: someNumber(rnd), Theirs: someNumber(rnd), Step: api.TalkStep(rnd.Intn(8) % 256), Said: said[rnd.Intn(len(said))], Heard: []byte(someBytes(rnd, 40))}
}

// R1: nothing panics and all ends, also of Talks that no call gave and of tables that know nothing of them; R5: an error is one of the chapter's, and beside it there is nothing.
func TestAnyTalks(t *testing.T) {
	rnd := rand.New(rand.NewSource(12))
	tables := []*users.Table{table(t, "eve:::k\nnobody:::\n"), table(t, ""), new(users.Table), nil}
	readErrs, writeErrs := []api.Errno{api.OK, api.ErrAuthKey}, []api.Errno{api.OK, api.ErrAuthText, api.ErrAuthOver}
	for range 30000 {
		u, a := tables[rnd.Intn(len(tables))], anyTalk(rnd)
		if rnd.Intn(50) == 0 {
			a.Step = api.TalkStep(rnd.Intn(256))
		}
		count := []int{0, 1, 16, 17, 25, -1, math.MinInt, math.MaxInt, rnd.Int()}[rnd.Intn(9)]
		next, b, e := auth.Read(u, a, count)
		if !slices.Contains(readErrs, e) || len(b) > max(count, 0) || e != api.OK && (len(b) > 0 || !sameTalk(next, api.Talk{})) {
			t.Fatalf("%+v: Read of %d: %+v, %q, %d", a, count, next, b, e)
		}
		text := someBytes(rnd, 70)
		next, n, e := auth.Write(u, a, []byte(text))
		if !slices.Contains(writeErrs, e) || e == api.OK && n != len(text) || e != api.OK && (n != 0 || !sameTalk(next, api.Talk{})) {
			t.Fatalf("%+v: Write of %q: %+v, %d, %d", a, text, next, n, e)
		}
		auth.Allows(a, a.User, a.Tree)
	}
}

// R1, R5: whatever texts, keys and tables the other calls are given.
func TestAnyTexts(t *testing.T) {
	rnd := rand.New(rand.NewSource(13))
	tables := []*users.Table{table(t, "eve:::k\nnobody:::\n"), table(t, ""), new(users.Table), nil}
	for range 20000 {
		a, b, c := someBytes(rnd, 30), someBytes(rnd, 30), someBytes(rnd, 30)
		for _, u := range tables {
			if next, e := auth.Begin(u, a, b, someNumber(rnd)); e != api.ErrUsersNone || !sameTalk(next, api.Talk{}) {
				t.Fatalf("Begin of %q: %+v, %d", a, next, e)
			}
		}
		wantAnswer(t, side{a, b, c, 0}, a, someNumber(rnd))
		wantAnswer(t, side{a, b, c, 0}, "verger1 "+a, someNumber(rnd))
		wantConfirms(t, side{a, b, c, 0}, b, someNumber(rnd), c, false)
	}
	if next, e := auth.Begin(nil, "eve", "", 1); e != api.ErrUsersNone || !sameTalk(next, api.Talk{}) {
		t.Errorf("Begin of no table: %+v, %d", next, e)
	}
}

// R1: also long texts and lists.
func TestExtremes(t *testing.T) {
	long := strings.Repeat("x", 1<<20)
	s := side{long, long, long, math.MaxUint64}
	wantSum(t, sumOf(long[:70000], make([]uint64, 10000)...), long[:70000], make([]uint64, 10000)...)
	if b, e := auth.Answer(s.key, s.user, s.tree, []byte(s.hello()), 1); len(b) != 33 || e != api.OK {
		t.Errorf("Answer by long texts: %q, %d", b, e)
	}
	for b := range 256 {
		bad := strings.Repeat(string([]byte{byte(b)}), 1<<16)
		wantAnswer(t, eve(), bad, 1)
		wantAnswer(t, eve(), "verger1 "+bad, 1)
		wantConfirms(t, eve(), eve().hello(), 1, bad, false)
		if e := come(t, eve(), api.TalkAnswer).write(t, bad); e != api.ErrAuthText {
			t.Errorf("Write of %s: %d", short(bad), e)
		}
	}
}

// withRoom is a list with spare room behind it, and all of it.
func withRoom(s string) (list, all []byte) {
	all = []byte(s + "spare room, spare room, spare room, spare room")
	return all[:len(s)], all
}

// R2: nothing that is handed in is written into, nor its spare room.
func TestHandedInStays(t *testing.T) {
	answer := eve().answer(0x1234)
	for heard := range 34 {
		p := come(t, eve(), api.TalkAnswer)
		list, all := withRoom(answer[:heard])
		b, more := withRoom(answer[heard:])
		wasAll, wasMore := slices.Clone(all), slices.Clone(more)
		p.t.Heard = list
		for n := range len(b) + 1 {
			auth.Write(p.u, p.t, b[:n])
			auth.Read(p.u, p.t, n)
			auth.Allows(p.t, "eve", "")
		}
		auth.Write(p.u, p.t, more)
		if !bytes.Equal(all, wasAll) || !bytes.Equal(more, wasMore) {
			t.Fatalf("a list was written into: %q, %q", all, more)
		}
	}
	hello, all := withRoom(eve().hello())
	proof, more := withRoom(eve().proof(7))
	was, wasMore, l := slices.Clone(all), slices.Clone(more), []uint64{1, 2, 3, 4}
	auth.Answer("k", "eve", "", hello, 7)
	auth.Confirms("k", "eve", "", hello, 7, proof)
	auth.Sum("k", l[:2]...)
	if !bytes.Equal(all, was) || !bytes.Equal(more, wasMore) || !slices.Equal(l, []uint64{1, 2, 3, 4}) {
		t.Errorf("a list was written into: %q, %q, %d", all, more, l)
	}
}

// spoil changes all of a list, and its spare room.
func spoil(b []byte) {
	b = b[:cap(b)]
	for i := range b {
		b[i] = 0xee
	}
}

// R2: what was handed in may be changed later, and what comes out is new memory, spare room too: none of them shares any with another.
func TestComesOutNew(t *testing.T) {
	answer := eve().answer(0x1234)
	for heard := range 33 {
		p := come(t, eve(), api.TalkAnswer)
		b := []byte(answer[:heard])
		one, _, _ := auth.Write(p.u, p.t, b)
		two, _, _ := auth.Write(p.u, one, nil)
		three, _, _ := auth.Read(p.u, one, 5)
		four, _, _ := auth.Write(p.u, one, []byte(answer[heard:32]))
		want := append([]byte(nil), answer[:heard]...)
		spoil(b)
		for i, l := range [][]byte{one.Heard, two.Heard, three.Heard} {
			if !bytes.Equal(l, want) {
				t.Fatalf("%d: %q, want %q", i, l, want)
			}
			spoil(l)
		}
		if string(four.Heard) != answer[:32] {
			t.Fatalf("behind %d: %q", heard, four.Heard)
		}
	}
	for _, step := range []api.TalkStep{api.TalkHello, api.TalkProof} {
		p := come(t, eve(), step)
		_, one, _ := auth.Read(p.u, p.t, 5)
		_, two, _ := auth.Read(p.u, p.t, 5)
		spoil(one)
		if want := p.m.tells()[p.m.told:][:5]; string(two) != want || p.read(t, 5) != want {
			t.Errorf("what was told shares memory: %q", two)
		}
	}
	one, _ := auth.Answer("k", "eve", "", []byte(eve().hello()), 0x1234)
	two, _ := auth.Answer("k", "eve", "", []byte(eve().hello()), 0x1234)
	spoil(one)
	if string(two) != answer {
		t.Errorf("Answer shares memory: %q", two)
	}
}

// R2: a list that has nothing in it may be nil or not.
func TestNilIsEmpty(t *testing.T) {
	for _, b := range [][]byte{nil, {}} {
		p := come(t, eve(), api.TalkAnswer)
		p.t.Heard = b
		if next, n, e := auth.Write(p.u, p.t, b); n != 0 || e != api.OK || !sameTalk(next, p.m.now()) {
			t.Errorf("Write of nothing: %+v, %d, %d", next, n, e)
		}
		p.write(t, eve().answer(1))
		p.wantStep(t, api.TalkProof)
	}
}

// R3: what a call answers hangs on its arguments alone: a Talk goes on from each of its states, again and again, whatever others do.
func TestSameAgain(t *testing.T) {
	var all []*pair
	for range 3 {
		for _, step := range steps() {
			all = append(all, come(t, eve(), step), come(t, side{"k2", "bob", "t", 9}, step))
		}
	}
	for range 3 {
		for _, p := range all {
			one, two := *p, *p
			one.read(t, 3)
			one.write(t, "abc")
			two.read(t, 3)
			two.write(t, "abc")
			if !sameTalk(one.t, two.t) {
				t.Errorf("%+v, %+v", one.t, two.t)
			}
			wantSum(t, 0xa2ad0b90957f16e8, "key1", 1, 2)
		}
	}
}

// R4: nothing goes on when a call has answered.
func TestNoGoroutines(t *testing.T) {
	was := runtime.NumGoroutine()
	for _, step := range steps() {
		p := come(t, eve(), step)
		p.read(t, 5)
		p.write(t, "x")
		p.wantAllows(t)
	}
	auth.Confirms("k", "eve", "", []byte(eve().hello()), 1, []byte(eve().proof(1)))
	auth.Answer("k", "eve", "", []byte("x"), 1)
	if n := runtime.NumGoroutine(); n > was {
		t.Errorf("%d goroutines more", n-was)
	}
}
