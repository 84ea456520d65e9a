package auth_test

import (
	"math"
	"math/rand"
	"slices"
	"strings"
	"testing"

	"verger/api"
	"verger/auth"
)

// wantAnswer holds Answer to the model: to its answer, or, where hello is none, to nothing.
func wantAnswer(t *testing.T, s side, hello string, theirs uint64) {
	t.Helper()
	want, wantErr := "", api.ErrAuthText
	if ours, ok := oursIn(hello); ok {
		want, wantErr = side{s.key, s.user, s.tree, ours}.answer(theirs), api.OK
	}
	if b, e := auth.Answer(s.key, s.user, s.tree, []byte(hello), theirs); string(b) != want || e != wantErr {
		t.Fatalf("Answer(%q, %s, %s, %s, %x): %q, %d; want %q, %d", s.key, short(s.user), short(s.tree), short(hello), theirs, b, e, want, wantErr)
	}
}

func wantConfirms(t *testing.T, s side, hello string, theirs uint64, proof string, want bool) {
	t.Helper()
	if got := auth.Confirms(s.key, s.user, s.tree, []byte(hello), theirs, []byte(proof)); got != want {
		t.Fatalf("Confirms(%q, %s, %s, %s, %x, %s): %v", s.key, short(s.user), short(s.tree), short(hello), theirs, short(proof), got)
	}
}

// The chapter's example 3, from the client's side.
func TestClientExample(t *testing.T) {
	hello, answer, proof := []byte("verger1 1bf16d9b7319f9e5\n"), "0000000000001234f12526340a8b383c\n", "74d64a00551db18f\n"
	if b, e := auth.Answer("k", "eve", "", hello, 0x1234); string(b) != answer || e != api.OK {
		t.Errorf("Answer: %q, %d", b, e)
	}
	if !auth.Confirms("k", "eve", "", hello, 0x1234, []byte(proof)) {
		t.Error("Confirms")
	}
}

// Whoever asks, by whatever key: nothing but the hello may be wrong.
func TestAnswer(t *testing.T) {
	rnd := rand.New(rand.NewSource(5))
	for _, key := range []string{"", "k", "key1", "\x00", "\xff\n", ":", "é", strings.Repeat("k", 32), strings.Repeat("k", 1000)} {
		for _, user := range []string{"", "eve", "\xff", "e:v", strings.Repeat("e", 1000)} {
			for _, tree := range []string{"", "t", "eve", "\n\x00"} {
				for _, ours := range []uint64{0, 1, 0xabcdef, 1 << 63, math.MaxUint64} {
					s := side{key, user, tree, ours}
					wantAnswer(t, s, s.hello(), someNumber(rnd))
					theirs := someNumber(rnd)
					wantConfirms(t, s, s.hello(), theirs, s.proof(theirs), true)
				}
			}
		}
	}
}

// A hello is one in its right form alone.
func TestHelloForm(t *testing.T) {
	s := side{"k", "eve", "t", 0x00abcdef12345678}
	proof := s.proof(5)
	for _, hello := range append(malformed(s.hello()), "verger1  abcdef12345678\n", "verger1 +0abcdef12345678\n", "verger1 -0abcdef12345678\n", "verger1 0xabcdef12345678\n", "verger1 00_bcdef12345678\n", "verger1 00ABCDEF12345678\n", "verger1 00abcdEf12345678\n", "verger1 abcdef12345678\n", "verger1 000abcdef12345678\n",
		"verger1 \n", "verger1", "verger1 g0abcdef12345678\n", "verger2 00abcdef12345678\n", "Verger1 00abcdef12345678\n", "verger100abcdef12345678\n", "verger1\t00abcdef12345678\n", "00abcdef12345678\n", "verger1 verger1 00abcdef12345678\n", "verger1 00abcdef12345678\n\n", "00abcdef12345678verger1 \n", "verger1 １００abcdef123\n", "verger1 10000000000000000\n") {
		if _, ok := oursIn(hello); ok {
			t.Fatalf("%q is a hello", hello)
		}
		wantAnswer(t, s, hello, 5)
		wantConfirms(t, s, hello, 5, proof, false)
		wantConfirms(t, side{"k", "eve", "t", 0}, hello, 5, side{"k", "eve", "t", 0}.proof(5), false)
	}
	if b, e := auth.Answer("k", "eve", "t", nil, 5); len(b) != 0 || e != api.ErrAuthText {
		t.Errorf("Answer to nil: %q, %d", b, e)
	}
}

// Each hello that has another byte in one place is none, or that of another number.
func TestHelloChanged(t *testing.T) {
	n := 0
	for _, ours := range []uint64{0, 0x00abcdef12345678, math.MaxUint64} {
		s := side{"k", "eve", "t", ours}
		for _, hello := range changed(s.hello()) {
			wantAnswer(t, s, hello, 5)
			wantConfirms(t, s, hello, 5, s.proof(5), false)
			if other, ok := oursIn(hello); ok {
				wantConfirms(t, s, hello, 5, side{"k", "eve", "t", other}.proof(5), true)
				n++
			}
		}
	}
	if n != 3*16*15 {
		t.Errorf("%d are hellos", n)
	}
}

// A proof is the right one to its last bit, and in its right form alone.
func TestProof(t *testing.T) {
	s := side{"k", "eve", "t", 0xabcdef}
	letters := 0
	for theirs := range uint64(20) {
		proof := s.proof(theirs)
		wantConfirms(t, s, s.hello(), theirs, proof, true)
		for _, other := range slices.Concat(malformed(proof), changed(proof)) {
			wantConfirms(t, s, s.hello(), theirs, other, false)
		}
		if strings.ToUpper(proof) != proof {
			letters++
		}
	}
	if letters == 0 {
		t.Error("no proof with letters")
	}
	if auth.Confirms("k", "eve", "t", []byte(s.hello()), 5, nil) || auth.Confirms("k", "eve", "t", nil, 5, []byte(s.proof(5))) || auth.Confirms("", "", "", nil, 0, nil) {
		t.Error("Confirms of nil")
	}
}

// A proof of anything else is none.
func TestProofOthers(t *testing.T) {
	s := side{"k", "eve", "t", 1}
	for _, other := range []side{{"K", "eve", "t", 1}, {"", "eve", "t", 1}, {"kk", "eve", "t", 1}, {"k", "Eve", "t", 1}, {"k", "", "t", 1}, {"k", "eve", "", 1}, {"k", "eve", "T", 1}, {"k", "t", "eve", 1}, {"eve", "k", "t", 1}, {"k", "eve", "t", 0}, {"k", "eve", "t", 2}, {"k", "eve", "t", 1 << 63}} {
		for _, theirs := range []uint64{0, 1, 0x1234, math.MaxUint64} {
			wantConfirms(t, s, s.hello(), theirs, other.proof(theirs), false)
			wantConfirms(t, other, s.hello(), theirs, s.proof(theirs), other.ours != s.ours) // those differ by the number alone, which the hello tells
			wantConfirms(t, s, s.hello(), theirs, s.proof(theirs+1), false)
			wantConfirms(t, s, s.hello(), theirs, s.proof(^theirs), false)
		}
	}
}

func TestClientMixed(t *testing.T) {
	rnd := rand.New(rand.NewSource(6))
	for range 3000 {
		s, theirs := someSide(rnd), someNumber(rnd)
		if rnd.Intn(3) == 0 {
			s.key = someBytes(rnd, 40)
		}
		hello := s.hello()
		if rnd.Intn(3) == 0 {
			all := changed(hello)
			hello = all[rnd.Intn(len(all))]
		}
		wantAnswer(t, s, hello, theirs)
		ours, ok := oursIn(hello)
		wantConfirms(t, s, hello, theirs, s.proof(theirs), ok && ours == s.ours)
	}
}
