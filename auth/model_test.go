package auth_test

import (
	"fmt"
	"math"
	"math/big"
	"math/rand"
	"reflect"
	"regexp"
	"slices"
	"strconv"
	"strings"
	"testing"

	"verger/api"
	"verger/auth"
	"verger/users"
)

// The model: what the chapter says, in other words than the package's, to hold the package against. Numbers are whole ones, cut to 64 bits at the end of each step; a Talk is all that was told and heard in it ever.

func whole(hex string) *big.Int {
	n, _ := new(big.Int).SetString(hex, 16)
	return n
}

var (
	first   = whole("6d5c8f3a20b71e47")
	times   = whole("a3c28bd6e1f7406d")
	modulo  = whole("10000000000000000")
	shifted = whole("20000000") // what 29 bits to the right divide by
)

func stepOf(h, n *big.Int) *big.Int {
	x := new(big.Int).Xor(h, n)
	x.Mul(x, times).Mod(x, modulo)
	return x.Xor(x, new(big.Int).Div(x, shifted))
}

func sumOf(key string, l ...uint64) uint64 {
	h := first
	for _, b := range []byte(key) {
		h = stepOf(h, big.NewInt(int64(b)+1))
	}
	h = stepOf(h, big.NewInt(int64(len(key))))
	for _, n := range l {
		h = stepOf(h, new(big.Int).SetUint64(n))
	}
	return stepOf(h, big.NewInt(int64(len(l)))).Uint64()
}

// side is what somebody knows who keeps an exchange.
type side struct {
	key, user, tree string
	ours            uint64
}

func (s side) hello() string { return fmt.Sprintf("verger1 %016x\n", s.ours) }

func (s side) answer(theirs uint64) string {
	return fmt.Sprintf("%016x%016x\n", theirs, sumOf(s.key, 1, s.ours, theirs, sumOf(s.user), sumOf(s.tree)))
}

func (s side) proof(theirs uint64) string {
	return fmt.Sprintf("%016x\n", sumOf(s.key, 2, s.ours, theirs, sumOf(s.user), sumOf(s.tree)))
}

var (
	helloRe  = regexp.MustCompile(`\Averger1 ([0-9a-f]{16})\n\z`)
	answerRe = regexp.MustCompile(`\A([0-9a-f]{16})([0-9a-f]{16})\n\z`)
)

// oursIn is the number of a hello.
func oursIn(hello string) (uint64, bool) {
	l := helloRe.FindStringSubmatch(hello)
	if l == nil {
		return 0, false
	}
	return whole(l[1]).Uint64(), true
}

// talk is a model's Talk.
type talk struct {
	side
	told  int    // of all lines
	heard string // ever
}

// proves tells whether the right answer was heard, and its number.
func (m talk) proves() (uint64, bool) {
	l := answerRe.FindStringSubmatch(m.heard)
	if l == nil {
		return 0, false
	}
	theirs := whole(l[1]).Uint64()
	return theirs, m.answer(theirs) == m.heard
}

// tells is all that there is to be told till now, what was told too.
func (m talk) tells() string {
	if theirs, ok := m.proves(); ok {
		return m.hello() + m.proof(theirs)
	}
	return m.hello()
}

// now is the model as a Talk.
func (m talk) now() api.Talk {
	t := api.Talk{User: m.user, Tree: m.tree, Ours: m.ours}
	theirs, ok := m.proves()
	switch {
	case m.told < 25:
		t.Step, t.Said = api.TalkHello, m.told
	case len(m.heard) < 33:
		t.Step, t.Heard = api.TalkAnswer, []byte(m.heard)
	case !ok:
		t.Step = api.TalkDead
	case m.told < 42:
		t.Step, t.Theirs, t.Said = api.TalkProof, theirs, m.told-25
	default:
		t.Step, t.Theirs = api.TalkDone, theirs
	}
	return t
}

func (m *talk) read(count int) (string, api.Errno) {
	if m.now().Step == api.TalkDead {
		return "", api.ErrAuthKey
	}
	rest := m.tells()[m.told:]
	if count < len(rest) {
		rest = rest[:max(count, 0)]
	}
	m.told += len(rest)
	return rest, api.OK
}

func (m *talk) write(b string) api.Errno {
	switch {
	case m.told < 25:
		return api.ErrAuthText
	case len(m.heard) == 33:
		return api.ErrAuthOver
	case len(m.heard)+len(b) > 33:
		return api.ErrAuthText
	}
	m.heard += b
	return api.OK
}

func (m talk) allows(user, tree string) api.Errno {
	if m.told == 42 && m.user == user && m.tree == tree {
		return api.OK
	}
	return api.ErrAuthKey
}

// sameTalk compares two Talks: a list that has nothing in it may be nil or not.
func sameTalk(a, b api.Talk) bool {
	if len(a.Heard)+len(b.Heard) == 0 {
		a.Heard, b.Heard = nil, nil
	}
	return reflect.DeepEqual(a, b)
}

// table is a table of a text that is one.
func table(t *testing.T, text string) *users.Table {
	t.Helper()
	u, e, _ := users.Parse(text)
	if u == nil || e != api.OK {
		t.Fatalf("Parse(%q): %d", text, e)
	}
	return u
}

// of is a table in which the user of a side has its key, with others ahead and behind.
func (s side) of(t *testing.T) *users.Table {
	t.Helper()
	return table(t, "nobody:::\n"+s.user+":::"+s.key+"\nother:::other\n")
}

// pair is a Talk of the package, the table that it goes with, and the model of it.
type pair struct {
	u *users.Table
	t api.Talk
	m talk
}

func begun(t *testing.T, s side) *pair {
	t.Helper()
	p := &pair{u: s.of(t), m: talk{side: s}}
	a, e := auth.Begin(p.u, s.user, s.tree, s.ours)
	if e != api.OK || !sameTalk(a, p.m.now()) {
		t.Fatalf("Begin(%q, %q, %x): %+v, %d", s.user, s.tree, s.ours, a, e)
	}
	p.t = a
	return p
}

// read reads of both, and holds the one against the other; where there is an error, it goes on with the Talk that it had.
func (p *pair) read(t *testing.T, count int) string {
	t.Helper()
	was := p.m.now()
	want, wantErr := p.m.read(count)
	next, b, e := auth.Read(p.u, p.t, count)
	wantTalk := p.m.now()
	if wantErr != api.OK {
		wantTalk = api.Talk{}
	}
	if string(b) != want || e != wantErr || !sameTalk(next, wantTalk) {
		t.Fatalf("%+v: Read of %d: %+v, %q, %d; want %+v, %q, %d", was, count, next, b, e, wantTalk, want, wantErr)
	}
	if e == api.OK {
		p.t = next
	}
	return want
}

func (p *pair) write(t *testing.T, b string) api.Errno {
	t.Helper()
	was := p.m.now()
	wantErr := p.m.write(b)
	next, n, e := auth.Write(p.u, p.t, []byte(b))
	want, wantTalk := len(b), p.m.now()
	if wantErr != api.OK {
		want, wantTalk = 0, api.Talk{}
	}
	if n != want || e != wantErr || !sameTalk(next, wantTalk) {
		t.Fatalf("%+v: Write of %q: %+v, %d, %d; want %+v, %d, %d", was, b, next, n, e, wantTalk, want, wantErr)
	}
	if e == api.OK {
		p.t = next
	}
	return e
}

func (p *pair) wantAllows(t *testing.T) {
	t.Helper()
	for _, user := range []string{p.m.user, "", "nobody", "other", "joe", p.m.user + " ", p.m.tree} {
		for _, tree := range []string{p.m.tree, "", "t", p.m.tree + "/", p.m.user} {
			if got, want := auth.Allows(p.t, user, tree), p.m.allows(user, tree); got != want {
				t.Fatalf("%+v: Allows(%q, %q): %d, want %d", p.t, user, tree, got, want)
			}
		}
	}
}

// wantStep asks that a pair has come to that step.
func (p *pair) wantStep(t *testing.T, want api.TalkStep) {
	t.Helper()
	if p.t.Step != want {
		t.Fatalf("%+v is not at step %d", p.t, want)
	}
}

// come is a Talk that has come to a step, with the number 1234 (hexadecimal) as theirs.
func come(t *testing.T, s side, to api.TalkStep) *pair {
	t.Helper()
	p := begun(t, s)
	if to > api.TalkHello {
		p.read(t, 25)
	}
	if to == api.TalkDead {
		p.write(t, s.answer(0x1234)[:31]+"??")
	} else if to > api.TalkAnswer {
		p.write(t, s.answer(0x1234))
	}
	if to == api.TalkDone {
		p.read(t, 17)
	}
	p.wantStep(t, to)
	return p
}

func steps() []api.TalkStep {
	return []api.TalkStep{api.TalkHello, api.TalkAnswer, api.TalkProof, api.TalkDone, api.TalkDead}
}

// eve is the side of the chapter's examples.
func eve() side { return side{key: "k", user: "eve", ours: 0x1bf16d9b7319f9e5} }

func someNumber(rnd *rand.Rand) uint64 {
	switch rnd.Intn(4) {
	case 0:
		return []uint64{0, 1, 2, math.MaxUint64, math.MaxUint64 - 1, 1 << 63, 1<<63 - 1, 1 << 60}[rnd.Intn(8)]
	case 1:
		return rnd.Uint64() >> rnd.Intn(64)
	}
	return rnd.Uint64()
}

func someBytes(rnd *rand.Rand, most int) string {
	b := make([]byte, rnd.Intn(most+1))
	for i := range b {
		b[i] = byte(rnd.Intn(1 << (1 + rnd.Intn(8))))
	}
	return string(b)
}

func oneOf(rnd *rand.Rand, of ...string) string { return of[rnd.Intn(len(of))] }

func someSide(rnd *rand.Rand) side {
	return side{
		key:  oneOf(rnd, "k", "key1", "K", "~", "!#,/", strings.Repeat("k", 32), "0000000000000001"),
		user: oneOf(rnd, "eve", "e", "é😀", "-", "verger1", strings.Repeat("x", 32)),
		tree: oneOf(rnd, "", "t", "/", "eve", someBytes(rnd, 9), strings.Repeat("tree ", 9)),
		ours: someNumber(rnd),
	}
}

// cut is a text in pieces, some of them empty.
func cut(rnd *rand.Rand, s string) []string {
	var l []string
	for s != "" {
		n := rnd.Intn(min(len(s), 1+rnd.Intn(33)) + 1)
		l, s = append(l, s[:n]), s[n:]
	}
	return l
}

// changed is each text that has another byte in one place.
func changed(s string) []string {
	var l []string
	for i := range len(s) {
		for b := range 256 {
			if byte(b) != s[i] {
				l = append(l, s[:i]+string([]byte{byte(b)})+s[i+1:])
			}
		}
	}
	return l
}

// malformed are lines that would be this one, but for their form: other digits, signs, lengths, ends.
func malformed(line string) []string {
	body := strings.TrimSuffix(line, "\n")
	l := []string{"", "\n", body, body + "\r\n", body + "\n\n", body + " ", body + "\x00", " " + line, "\n" + line, line + line, line + "x", "0" + line, "+" + line, line[1:], line[:len(line)/2], strings.ToUpper(line),
		strings.Repeat(line, 1000), strings.Repeat("0", 100000), strings.Repeat("f", 100000) + "\n", strings.Repeat("\xff", 33), strings.Repeat("\x00", 25), body + "\\n"}
	return slices.DeleteFunc(l, func(s string) bool { return s == line })
}

func short(s string) string {
	if len(s) > 200 {
		return fmt.Sprintf("%q.. (%d bytes)", s[:200], len(s))
	}
	return strconv.Quote(s)
}
