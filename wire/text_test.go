package wire_test

import (
	"math"
	"math/rand"
	"strings"
	"testing"
	"unicode/utf8"

	"verger/wire"
)

func TestGoodOrdinary(t *testing.T) {
	for _, s := range []string{"", "a", "glenda", "café", "€5", "😀", " ", "\n", "\x01", "\x7f", "a/b", "..", strings.Repeat("é", 70000)} {
		if !wire.Good(s) {
			t.Errorf("Good(%.20q): false", s)
		}
	}
	for _, s := range []string{"\x00", "a\x00", "\x00a", "a\x00b", "\xff", "a\xff", "é\x80", "\xc3(", "€\xe2\x82", strings.Repeat("a", 70000) + "\x00"} {
		if wire.Good(s) {
			t.Errorf("Good(%.20q): true", s)
		}
	}
}

// The character U+FFFD is what a range tells for bad bytes too: it is good all the same.
func TestGoodReplacement(t *testing.T) {
	for s, want := range map[string]bool{"\ufffd": true, "a\ufffdb": true, "\ufffd\ufffd": true, "\ufffd\xef\xbf": false, "\xef\xbf\xbe": true, "\xef\xbf": false, "\xff\ufffd": false} {
		if wire.Good(s) != want {
			t.Errorf("Good(%x): %v", s, !want)
		}
	}
}

// edges are the bytes at which a row of the table of characters begins or ends, and their neighbours.
func edges() []byte {
	return []byte{0x00, 0x01, 0x7f, 0x80, 0x8f, 0x90, 0x9f, 0xa0, 0xbf, 0xc0, 0xc1, 0xc2, 0xdf, 0xe0, 0xe1, 0xec, 0xed, 0xee, 0xef, 0xf0, 0xf1, 0xf3, 0xf4, 0xf5, 0xff}
}

func TestGoodTable(t *testing.T) {
	check := func(s string) {
		want := firstBad(s) < 0
		if wire.Good(s) != want {
			t.Errorf("Good(%x): %v", s, !want)
		}
		if want != (utf8.ValidString(s) && strings.IndexByte(s, 0) < 0) {
			t.Fatalf("the table and unicode/utf8 differ at %x", s)
		}
	}
	for a := range 256 {
		check(string([]byte{byte(a)}))
		for b := range 256 {
			check(string([]byte{byte(a), byte(b)}))
		}
	}
	for _, a := range edges() {
		for _, b := range edges() {
			for _, c := range edges() {
				check(string([]byte{a, b, c}))
				for _, d := range edges() {
					check(string([]byte{a, b, c, d}))
				}
			}
		}
	}
}

func TestGoodMixed(t *testing.T) {
	rnd := rand.New(rand.NewSource(1))
	for range 20000 {
		s := someText(rnd, false)
		if want := firstBad(s) < 0; wire.Good(s) != want {
			t.Fatalf("Good(%x): %v", s, !want)
		}
	}
}

func TestCutNamed(t *testing.T) {
	for _, c := range []struct {
		s    string
		most int
		want string
	}{
		{"", 0, ""}, {"", 5, ""}, {"", -1, ""},
		{"abc", 0, ""}, {"abc", 1, "a"}, {"abc", 2, "ab"}, {"abc", 3, "abc"}, {"abc", 4, "abc"},
		{"abc", -1, ""}, {"abc", math.MinInt, ""}, {"abc", math.MaxInt, "abc"},
		{"aéb", 2, "a"}, {"aéb", 3, "aé"}, {"aéb", 4, "aéb"},
		{"€", 1, ""}, {"€", 2, ""}, {"€", 3, "€"},
		{"😀x", 3, ""}, {"😀x", 4, "😀"}, {"😀x", 5, "😀x"},
		{"\xff\xfe", 0, ""}, {"\xff\xfe", 1, "\xff"}, {"\xff\xfe", 2, "\xff\xfe"},
		{"\xe2\x82", 1, "\xe2"}, {"\xe2\x82a", 2, "\xe2\x82"}, {"\xf0\x9f\x98", 2, "\xf0\x9f"}, {"\xed\xa0\x80", 1, "\xed"},
		{"\x00\x00", 1, "\x00"}, {"\ufffd\ufffd", 5, "\ufffd"}, {"a\xc3", 2, "a\xc3"}, {"a\xc3\xa9", 2, "a"},
	} {
		if got := wire.Cut(c.s, c.most); got != c.want {
			t.Errorf("Cut(%x, %d): %x, want %x", c.s, c.most, got, c.want)
		}
	}
}

func TestCutMixed(t *testing.T) {
	rnd := rand.New(rand.NewSource(2))
	for range 5000 {
		s := someText(rnd, false)
		for most := -2; most <= len(s)+2; most++ {
			if got, want := wire.Cut(s, most), cut(s, most); got != want {
				t.Fatalf("Cut(%x, %d): %x, want %x", s, most, got, want)
			}
		}
	}
}

// Two good texts, one behind the other, are a good text; what Cut gives of a good text is good.
func TestTextsHold(t *testing.T) {
	rnd := rand.New(rand.NewSource(3))
	for range 5000 {
		a, b := someText(rnd, true), someText(rnd, true)
		if !wire.Good(a) || !wire.Good(b) || !wire.Good(a+b) {
			t.Fatalf("Good of %q, %q, or both: false", a, b)
		}
		for most := range len(a) + 1 {
			if got := wire.Cut(a, most); !wire.Good(got) || !strings.HasPrefix(a, got) || len(got) > most {
				t.Fatalf("Cut(%q, %d): %q", a, most, got)
			}
		}
	}
}
