package auth_test

import (
	"math"
	"math/rand"
	"strings"
	"testing"

	"verger/api"
	"verger/auth"
)

// The chapter's examples 2 and 3.
func TestTalkExample(t *testing.T) {
	u := table(t, "eve:::k")
	a, e := auth.Begin(u, "eve", "", 0x1bf16d9b7319f9e5)
	if e != api.OK || !sameTalk(a, api.Talk{User: "eve", Ours: 0x1bf16d9b7319f9e5, Step: api.TalkHello}) {
		t.Fatalf("Begin: %+v, %d", a, e)
	}
	a, b, e := auth.Read(u, a, 8)
	if string(b) != "verger1 " || e != api.OK || !sameTalk(a, api.Talk{User: "eve", Ours: 0x1bf16d9b7319f9e5, Step: api.TalkHello, Said: 8}) {
		t.Fatalf("Read of 8: %+v, %q, %d", a, b, e)
	}
	a, b, e = auth.Read(u, a, 100)
	if string(b) != "1bf16d9b7319f9e5\n" || e != api.OK || !sameTalk(a, api.Talk{User: "eve", Ours: 0x1bf16d9b7319f9e5, Step: api.TalkAnswer}) {
		t.Fatalf("Read of 100: %+v, %q, %d", a, b, e)
	}
	a, b, e = auth.Read(u, a, 100)
	if len(b) != 0 || e != api.OK || a.Step != api.TalkAnswer {
		t.Fatalf("Read of 100 more: %+v, %q, %d", a, b, e)
	}
	a, n, e := auth.Write(u, a, []byte("000000000000"))
	if n != 12 || e != api.OK || !sameTalk(a, api.Talk{User: "eve", Ours: 0x1bf16d9b7319f9e5, Step: api.TalkAnswer, Heard: []byte("000000000000")}) {
		t.Fatalf("Write: %+v, %d, %d", a, n, e)
	}
	a, n, e = auth.Write(u, a, []byte("1234f12526340a8b383c\n"))
	if n != 21 || e != api.OK || !sameTalk(a, api.Talk{User: "eve", Ours: 0x1bf16d9b7319f9e5, Theirs: 0x1234, Step: api.TalkProof}) {
		t.Fatalf("Write: %+v, %d, %d", a, n, e)
	}
	a, b, e = auth.Read(u, a, 17)
	if string(b) != "74d64a00551db18f\n" || e != api.OK || !sameTalk(a, api.Talk{User: "eve", Ours: 0x1bf16d9b7319f9e5, Theirs: 0x1234, Step: api.TalkDone}) {
		t.Fatalf("Read of the proof: %+v, %q, %d", a, b, e)
	}
	if e := auth.Allows(a, "eve", ""); e != api.OK {
		t.Errorf("Allows(eve, no tree): %d", e)
	}
	if e := auth.Allows(a, "eve", "t"); e != api.ErrAuthKey {
		t.Errorf("Allows(eve, t): %d", e)
	}
}

// The chapter's example 4.
func TestTalkExampleWrong(t *testing.T) {
	p := begun(t, eve())
	if e := p.write(t, "0000000000001234f12526340a8b383c\n"); e != api.ErrAuthText {
		t.Errorf("Write ahead of the hello: %d", e)
	}
	p.read(t, 24)
	if e := p.write(t, "0"); e != api.ErrAuthText {
		t.Errorf("Write ahead of the hello's last byte: %d", e)
	}
	p.read(t, 1)
	if e := p.write(t, "0000000000001234f12526340a8b383d\n"); e != api.OK {
		t.Errorf("Write of a wrong answer: %d", e)
	}
	p.wantStep(t, api.TalkDead)
	if _, _, e := auth.Read(p.u, p.t, 1); e != api.ErrAuthKey {
		t.Errorf("Read: %d", e)
	}
	if _, _, e := auth.Write(p.u, p.t, []byte("0000000000001234f12526340a8b383c\n")); e != api.ErrAuthOver {
		t.Errorf("Write: %d", e)
	}
	if a, e := auth.Begin(p.u, "nobody", "", 1); e != api.ErrAuthKey || !sameTalk(a, api.Talk{}) {
		t.Errorf("Begin of a user without a key: %+v, %d", a, e)
	}
}

func TestBegin(t *testing.T) {
	u := table(t, "eve:::k\nbob:::\nann:eve:eve,bob:"+strings.Repeat("~", 32)+"\né::bob:k\n#joe:::k\n")
	for user, want := range map[string]api.Errno{"eve": api.OK, "ann": api.OK, "é": api.OK, "bob": api.ErrAuthKey,
		"joe": api.ErrUsersNone, "": api.ErrUsersNone, "Eve": api.ErrUsersNone, "eve ": api.ErrUsersNone, "eve:::k": api.ErrUsersNone, "k": api.ErrUsersNone, "ev": api.ErrUsersNone, "\xff": api.ErrUsersNone, "#joe": api.ErrUsersNone, strings.Repeat("e", 100000): api.ErrUsersNone} {
		for _, tree := range []string{"", "t", "/", "eve", "\x00\xff\n", strings.Repeat("t", 100000)} {
			for _, ours := range []uint64{0, 1, 1 << 63, math.MaxUint64} {
				wantTalk := api.Talk{User: user, Tree: tree, Ours: ours, Step: api.TalkHello}
				if want != api.OK {
					wantTalk = api.Talk{}
				}
				if a, e := auth.Begin(u, user, tree, ours); e != want || !sameTalk(a, wantTalk) {
					t.Errorf("Begin(%s, %s, %x): %+v, %d; want %d", short(user), short(tree), ours, a, e, want)
				}
			}
		}
	}
	if a, e := auth.Begin(table(t, ""), "eve", "", 1); e != api.ErrUsersNone || !sameTalk(a, api.Talk{}) {
		t.Errorf("Begin of a table of nobody: %+v, %d", a, e)
	}
}

// From each place of what there is to be told, by each count.
func TestReadCounts(t *testing.T) {
	for _, step := range []api.TalkStep{api.TalkHello, api.TalkProof} {
		line := map[api.TalkStep]string{api.TalkHello: eve().hello(), api.TalkProof: eve().proof(0x1234)}[step]
		for from := range len(line) {
			for _, count := range []int{math.MinInt, -25, -2, -1, 0, 1, 2, 8, len(line) - from - 1, len(line) - from, len(line) - from + 1, 100, math.MaxInt} {
				p := come(t, eve(), step)
				p.read(t, from)
				if got := p.read(t, count); !strings.HasPrefix(line[from:], got) || len(got) != min(max(count, 0), len(line)-from) {
					t.Fatalf("from %d of %q, %d bytes: %q", from, line, count, got)
				}
				if over := p.t.Step != step; over != (count >= len(line)-from) {
					t.Fatalf("from %d of %q, %d bytes: %+v", from, line, count, p.t)
				}
				if got := p.read(t, math.MaxInt); p.t.Step != step+1 || got != line[min(from+max(min(count, 100), 0), len(line)):] {
					t.Fatalf("from %d of %q, behind %d bytes: %q, %+v", from, line, count, got, p.t)
				}
			}
		}
	}
}

// Where there is nothing to be told, nothing changes: what was heard stands there still.
func TestReadNothing(t *testing.T) {
	for heard := range 33 {
		p := come(t, eve(), api.TalkAnswer)
		p.write(t, eve().answer(0x1234)[:heard])
		for _, count := range []int{math.MinInt, -1, 0, 1, 17, 25, math.MaxInt} {
			if got := p.read(t, count); got != "" || len(p.t.Heard) != heard {
				t.Fatalf("Read of %d, when %d bytes were heard: %q, %+v", count, heard, got, p.t)
			}
		}
		p.write(t, eve().answer(0x1234)[heard:])
		p.wantStep(t, api.TalkProof)
	}
	for _, step := range []api.TalkStep{api.TalkDone, api.TalkDead} {
		for _, count := range []int{math.MinInt, -1, 0, 1, 17, 25, math.MaxInt} {
			p := come(t, eve(), step)
			p.read(t, count)
			p.wantStep(t, step)
		}
	}
}

// An answer is heard in one piece, in two and in 33; of no bytes, too.
func TestWritePieces(t *testing.T) {
	answer := eve().answer(0x1234)
	for cut := range len(answer) + 1 {
		p := come(t, eve(), api.TalkAnswer)
		for _, b := range []string{"", answer[:cut], ""} {
			if p.t.Step == api.TalkAnswer {
				p.write(t, b)
			}
		}
		if cut < len(answer) {
			p.wantStep(t, api.TalkAnswer)
			p.write(t, answer[cut:])
		}
		p.wantStep(t, api.TalkProof)
	}
	p := come(t, eve(), api.TalkAnswer)
	for i := range answer {
		p.wantStep(t, api.TalkAnswer)
		p.write(t, answer[i:i+1])
	}
	p.wantStep(t, api.TalkProof)
}

// More than an answer has is refused, wherever it comes, and nothing of it is heard; what was heard ahead of it is good still.
func TestWriteTooMuch(t *testing.T) {
	answer := eve().answer(0x1234)
	for heard := range len(answer) {
		for _, more := range []string{answer[heard:] + "0", answer[heard:] + "\n", answer + answer, strings.Repeat("\x00", 34-heard), strings.Repeat("x", 100000)} {
			p := come(t, eve(), api.TalkAnswer)
			p.write(t, answer[:heard])
			if e := p.write(t, more); e != api.ErrAuthText {
				t.Fatalf("Write of %s behind %d: %d", short(more), heard, e)
			}
			p.write(t, answer[heard:])
			p.wantStep(t, api.TalkProof)
		}
	}
}

// At each other step nothing is heard, not even no bytes.
func TestWriteElsewhere(t *testing.T) {
	for _, step := range steps() {
		for _, b := range []string{"", "0", eve().answer(0x1234), strings.Repeat("0", 34), eve().hello(), eve().proof(0x1234)} {
			p := come(t, eve(), step)
			for _, said := range []int{0, 1, 15} {
				want := map[api.TalkStep]api.Errno{api.TalkHello: api.ErrAuthText, api.TalkProof: api.ErrAuthOver, api.TalkDone: api.ErrAuthOver, api.TalkDead: api.ErrAuthOver}[step]
				if step == api.TalkHello || step == api.TalkProof {
					p.read(t, said)
				}
				if e := p.write(t, b); step != api.TalkAnswer && e != want {
					t.Fatalf("%+v: Write of %q: %d, want %d", p.t, b, e, want)
				}
			}
		}
	}
	if next, n, e := auth.Write(nil, api.Talk{User: "eve", Step: api.TalkHello}, nil); e != api.ErrAuthText || n != 0 || !sameTalk(next, api.Talk{}) {
		t.Errorf("Write of nil: %+v, %d, %d", next, n, e)
	}
}

// An answer is the right one to its last bit.
func TestWriteWrong(t *testing.T) {
	for _, s := range []side{eve(), {key: "k", user: "eve", tree: "t", ours: 0xabcdef}} {
		at := come(t, s, api.TalkAnswer)
		for _, theirs := range []uint64{0x1234, 0, math.MaxUint64, 0xabcdefabcdef} {
			for _, b := range changed(s.answer(theirs)) {
				p := *at
				p.write(t, b)
				p.wantStep(t, api.TalkDead)
			}
		}
	}
}

// Of 33 bytes, but in another form: other digits, signs, ends.
func TestWriteForm(t *testing.T) {
	s := side{key: "k", user: "eve", ours: 0xabcdef}
	for theirs := range uint64(12) {
		answer := s.answer(0xabcdef + theirs)
		sum := answer[16:32]
		for _, b := range []string{strings.ToUpper(answer), answer[:16] + strings.ToUpper(answer[16:]), answer[:32] + "\r", answer[:32] + "\x00", answer[:32] + "0", "\n" + answer[:32], " " + answer[1:], "+" + answer[1:], "-" + answer[1:], "_" + answer[1:], "0x" + answer[2:], "0_" + answer[2:], "0X" + answer[2:],
			sum + answer[:16] + "\n", answer[1:17] + answer[17:] + "\n", answer[:31] + "\n\n", strings.Repeat("0", 33), strings.Repeat("f", 32) + "\n", strings.Repeat("\xff", 33), strings.Repeat("é", 16) + "\n"} {
			if b == answer || len(b) != 33 {
				continue
			}
			p := come(t, s, api.TalkAnswer)
			p.write(t, b)
			p.wantStep(t, api.TalkDead)
		}
	}
}

// An answer is by the key of that user, to that tree, to that hello.
func TestWriteOthers(t *testing.T) {
	s := side{key: "k", user: "eve", tree: "t", ours: 1}
	for _, other := range []side{{"K", "eve", "t", 1}, {"", "eve", "t", 1}, {"kk", "eve", "t", 1}, {"other", "eve", "t", 1}, {"k", "other", "t", 1}, {"k", "", "t", 1}, {"k", "Eve", "t", 1}, {"k", "eve", "", 1}, {"k", "eve", "T", 1}, {"k", "eve", "tt", 1}, {"k", "t", "eve", 1}, {"t", "eve", "k", 1}, {"eve", "k", "t", 1}, {"k", "eve", "t", 0}, {"k", "eve", "t", 2}, {"k", "eve", "t", 1 << 63}, {"other", "other", "t", 1}} {
		for _, theirs := range []uint64{0, 1, 0x1234, math.MaxUint64} {
			p := come(t, s, api.TalkAnswer)
			p.write(t, other.answer(theirs))
			p.wantStep(t, api.TalkDead)
		}
	}
}

// Any number of theirs is as good as another one.
func TestWriteTheirs(t *testing.T) {
	for _, theirs := range []uint64{0, 1, 0x1234, 1 << 60, 1 << 63, 1<<63 - 1, math.MaxUint64, 0x0123456789abcdef, 0xfedcba9876543210, eve().ours} {
		p := come(t, eve(), api.TalkAnswer)
		p.write(t, eve().answer(theirs))
		p.wantStep(t, api.TalkProof)
		if p.t.Theirs != theirs || p.read(t, 100) != eve().proof(theirs) {
			t.Errorf("%x: %+v", theirs, p.t)
		}
		p.wantStep(t, api.TalkDone)
	}
}

// Somebody is allowed when all was told, and not a byte earlier; as that user, to that tree.
func TestAllows(t *testing.T) {
	for _, s := range []side{eve(), {key: "k", user: "eve", tree: "t", ours: 3}, {key: "k", user: "t", tree: "eve", ours: 3}, {key: "k", user: "é", tree: "\xff", ours: 0}} {
		for _, step := range steps() {
			come(t, s, step).wantAllows(t)
		}
		p := come(t, s, api.TalkProof)
		for range 16 {
			p.read(t, 1)
			p.wantAllows(t)
		}
		if e := auth.Allows(p.t, s.user, s.tree); e != api.ErrAuthKey {
			t.Errorf("%+v: Allows: %d", p.t, e)
		}
		p.read(t, 1)
		p.wantAllows(t)
		if e := auth.Allows(p.t, s.user, s.tree); e != api.OK {
			t.Errorf("%+v: Allows: %d", p.t, e)
		}
	}
	if e := auth.Allows(api.Talk{}, "", ""); e != api.ErrAuthKey {
		t.Errorf("Allows of no Talk: %d", e)
	}
}

// Talks of all sorts, against the model.
func TestTalkMixed(t *testing.T) {
	rnd := rand.New(rand.NewSource(4))
	ends := map[api.TalkStep]int{}
	for range 1500 {
		s := someSide(rnd)
		p := begun(t, s)
		line := someLine(rnd, s)
		for range 3 + rnd.Intn(20) {
			p.wantAllows(t)
			switch n := min(rnd.Intn(34), len(line)); {
			case p.t.Step == api.TalkAnswer && rnd.Intn(3) > 0:
				if p.write(t, line[:n]) == api.OK {
					line = line[n:]
				}
			case rnd.Intn(4) == 0:
				p.write(t, someBytes(rnd, 40))
			default:
				p.read(t, rnd.Intn(30)-2)
			}
		}
		ends[p.t.Step]++
	}
	for _, step := range steps() {
		if ends[step] < 30 {
			t.Errorf("%d Talks ended at step %d", ends[step], step)
		}
	}
}

// someLine is an answer, or something like it.
func someLine(rnd *rand.Rand, s side) string {
	line := s.answer(someNumber(rnd))
	switch rnd.Intn(6) {
	case 0:
		all := changed(line)
		return all[rnd.Intn(len(all))]
	case 1:
		return someSide(rnd).answer(someNumber(rnd))
	}
	return line
}
