package auth_test

import (
	"math/rand"
	"strings"
	"testing"

	"verger/api"
	"verger/auth"
)

// readAll reads in pieces till a Talk has come to another step.
func (p *pair) readAll(t *testing.T, rnd *rand.Rand) string {
	t.Helper()
	line, step := "", p.t.Step
	for p.t.Step == step {
		line += p.read(t, rnd.Intn(12))
	}
	return line
}

// passed is a Talk that a client went through by the calls of its own side, who has that key; its numbers are told, too.
func passed(t *testing.T, rnd *rand.Rand, s side, key string) (p *pair, hello string, theirs uint64) {
	t.Helper()
	p, theirs = begun(t, s), someNumber(rnd)
	hello = p.readAll(t, rnd)
	answer, e := auth.Answer(key, s.user, s.tree, []byte(hello), theirs)
	if e != api.OK {
		t.Fatalf("Answer to %q: %d", hello, e)
	}
	for _, b := range cut(rnd, string(answer)) {
		if e := p.write(t, b); e != api.OK {
			t.Fatalf("Write of %q: %d", b, e)
		}
	}
	return p, hello, theirs
}

// Who has the key comes through, in whatever pieces the lines are read and written; and is allowed as that user to that tree, and as nobody and to nothing else.
func TestComesThrough(t *testing.T) {
	rnd := rand.New(rand.NewSource(7))
	for range 1000 {
		s := someSide(rnd)
		p, hello, theirs := passed(t, rnd, s, s.key)
		p.wantStep(t, api.TalkProof)
		p.wantAllows(t)
		proof := p.readAll(t, rnd)
		p.wantStep(t, api.TalkDone)
		if !auth.Confirms(s.key, s.user, s.tree, []byte(hello), theirs, []byte(proof)) {
			t.Fatalf("%+v: the proof %q is not confirmed", s, proof)
		}
		p.wantAllows(t)
		if e := auth.Allows(p.t, s.user, s.tree); e != api.OK {
			t.Fatalf("%+v: Allows: %d", s, e)
		}
		if auth.Allows(p.t, s.user+"x", s.tree) == api.OK || auth.Allows(p.t, s.user, s.tree+"x") == api.OK || s.user != s.tree && auth.Allows(p.t, s.tree, s.user) == api.OK {
			t.Fatalf("%+v: Allows of others", s)
		}
	}
}

// Who has another key does not, and is not told a proof.
func TestOtherKey(t *testing.T) {
	rnd := rand.New(rand.NewSource(8))
	for range 1000 {
		s, key := someSide(rnd), oneOf(rnd, "", "k", "K", "kk", "other", someBytes(rnd, 33))
		p, hello, theirs := passed(t, rnd, s, key)
		if key == s.key {
			continue
		}
		p.wantStep(t, api.TalkDead)
		for range 5 {
			p.read(t, 100)
			p.write(t, s.answer(theirs))
			p.wantAllows(t)
		}
		if auth.Confirms(key, s.user, s.tree, []byte(hello), theirs, []byte(s.proof(theirs))) {
			t.Fatalf("%+v: %q confirms another key's proof", s, key)
		}
	}
}

// A Talk is never done for whom did not say the answer by that user's key: not by whatever bytes, in whatever order.
func TestNeverDone(t *testing.T) {
	rnd := rand.New(rand.NewSource(9))
	for range 500 {
		s := someSide(rnd)
		p := begun(t, s)
		for range 40 {
			switch rnd.Intn(3) {
			case 0:
				p.read(t, rnd.Intn(40))
			case 1:
				p.write(t, someBytes(rnd, 33))
			case 2:
				p.write(t, oneOf(rnd, "", "0", "\n", s.hello(), s.proof(0), s.key, strings.Repeat("0", 32)+"\n", side{"", s.user, s.tree, s.ours}.answer(0)))
			}
			if p.t.Step == api.TalkProof || p.t.Step == api.TalkDone || auth.Allows(p.t, s.user, s.tree) == api.OK {
				t.Fatalf("%+v without an answer", p.t)
			}
		}
	}
}

// Who has no key any more, or is gone, is nobody whose key could be shown.
func TestKeyIsGone(t *testing.T) {
	for _, text := range []string{"eve:::", "", "bob:::k"} {
		for _, key := range []string{"", "k"} {
			p := come(t, eve(), api.TalkAnswer)
			answer, _ := auth.Answer(key, "eve", "", []byte(eve().hello()), 7)
			if next, _, e := auth.Write(table(t, text), p.t, answer); e != api.OK || next.Step != api.TalkDead {
				t.Errorf("of the table %q by the key %q: %+v, %d", text, key, next, e)
			}
		}
	}
}

// An answer heard once is good for no other hello, with the same number theirs.
func TestAnswerAgain(t *testing.T) {
	rnd := rand.New(rand.NewSource(10))
	for range 500 {
		s := someSide(rnd)
		p, _, theirs := passed(t, rnd, s, s.key)
		p.wantStep(t, api.TalkProof)
		for _, ours := range []uint64{s.ours + 1, s.ours - 1, ^s.ours, s.ours ^ 1<<63, someNumber(rnd), theirs} {
			other := side{s.key, s.user, s.tree, ours}
			if other == s {
				continue
			}
			again := begun(t, other)
			again.readAll(t, rnd)
			again.write(t, s.answer(theirs))
			again.wantStep(t, api.TalkDead)
		}
	}
}

// Of one connection's authentications no answer is good for another one.
func TestAnswerOfOne(t *testing.T) {
	for nth := 1; nth < 50; nth++ {
		one, other := eve(), eve()
		one.ours, other.ours = auth.Ours(7, 1, nth), auth.Ours(7, 1, nth+1)
		p := come(t, other, api.TalkAnswer)
		p.write(t, one.answer(3))
		p.wantStep(t, api.TalkDead)
	}
}

// The server's proof is no answer, and no answer is a proof, for the same numbers.
func TestAnswerAndProof(t *testing.T) {
	rnd := rand.New(rand.NewSource(11))
	for range 1000 {
		s, theirs := someSide(rnd), someNumber(rnd)
		answer, proof := s.answer(theirs), s.proof(theirs)
		for _, b := range []string{answer[:16] + proof, proof[:16] + proof} {
			p := come(t, s, api.TalkAnswer)
			p.write(t, b)
			p.wantStep(t, api.TalkDead)
		}
		p := come(t, s, api.TalkAnswer)
		p.write(t, proof)
		p.wantStep(t, api.TalkAnswer)
		for _, b := range []string{answer, answer[16:], answer[:16] + "\n", answer[:17], answer[15:]} {
			wantConfirms(t, s, s.hello(), theirs, b, false)
		}
	}
}
