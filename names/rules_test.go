package names_test

import (
	"math/rand"
	"runtime"
	"slices"
	"strings"
	"testing"

	"verger/api"
	"verger/names"
)

// R1: nothing panics and all ends, whatever texts are handed in; R5: an error is one of the chapter's, and beside it there is nothing.
func TestAnyTexts(t *testing.T) {
	rnd := rand.New(rand.NewSource(13))
	for range 50000 {
		a, b := someBytes(rnd), someBytes(rnd)+some(rnd, 5, "[", "]", "'", `\`, "/", "..", "*", "-")
		if e := names.Check(a); e != api.OK && e != api.ErrName {
			t.Fatalf("Check(%q): %d", a, e)
		}
		p, e := names.Split(b)
		if e != api.OK && (e != api.ErrPath || p.Rooted || len(p.Parts) > 0) {
			t.Fatalf("Split(%q): %+v, %d", b, p, e)
		}
		names.Join(api.Path{Rooted: len(a) > 3, Parts: []string{a, b, a}})
		if s, e := names.Clean(b); e != api.OK && (e != api.ErrPath || s != "") {
			t.Fatalf("Clean(%q): %q, %d", b, s, e)
		}
		if s, is := names.Under(a, b); !is && s != "" {
			t.Fatalf("Under(%q, %q): %q", a, b, s)
		}
		if is, e := names.Match(b, a); e != api.OK && (e != api.ErrPattern || is) {
			t.Fatalf("Match(%q, %q): %v, %d", b, a, is, e)
		}
		if l, e := names.Words(b); e != api.OK && (e != api.ErrQuote || len(l) > 0) {
			t.Fatalf("Words(%q): %q, %d", b, l, e)
		}
		names.Sorted(a, b, a)
		names.Quote(b)
	}
}

// R1: also long rows of one byte alike.
func TestExtremes(t *testing.T) {
	for b := range 256 {
		for _, n := range []int{255, 256, 70000} {
			s := strings.Repeat(string([]byte{byte(b)}), n)
			wantCheck(t, s, isName(s))
			want, wantErr := matchOf(s, s[:255])
			if is, e := names.Match(s, s[:255]); is != want || e != wantErr {
				t.Errorf("Match(%s, ..): %v, %d; want %v, %d", short(s), is, e, want, wantErr)
			}
			c, ok := cleanOf(s)
			if got, e := names.Clean(s); got != c || (e == api.OK) != ok {
				t.Errorf("Clean(%s): %s, %d", short(s), short(got), e)
			}
			if rest, is := names.Under(s, s); is != (ok && c == s) || is && rest != "." {
				t.Errorf("Under(%s, it): %q, %v", short(s), rest, is)
			}
			l, e := names.Words(s)
			if word, again := names.Words(names.Quote(s)); again != api.OK || len(word) != 1 || word[0] != s || len(l) > 1 || e != api.OK && b != '\'' {
				t.Errorf("Words(%s): %d words, %d; in quotes %d, %d", short(s), len(l), e, len(word), again)
			}
		}
	}
}

// R2: nothing that is handed in is written into, nor its spare room.
func TestHandedInStays(t *testing.T) {
	room := []string{"c", "..", "a", "c", "spare", "room"}
	was := slices.Clone(room)
	p := api.Path{Parts: room[:4]}
	if s := names.Join(p); s != "c/../a/c" {
		t.Errorf("Join: %q", s)
	}
	p.Rooted = true
	names.Join(p)
	got := names.Sorted(room[:4]...)
	_ = append(got, "more")
	if !slices.Equal(room, was) {
		t.Errorf("a list was written into: %q", room)
	}
	clear(room)
	if !slices.Equal(got, []string{"..", "a", "c"}) {
		t.Errorf("Sorted changes with what was handed in: %q", got)
	}
	// A list that is sorted, and has each once, comes out new too.
	room = []string{"a", "b", "c"}
	spoil(names.Sorted(room...))
	if !slices.Equal(room, []string{"a", "b", "c"}) {
		t.Errorf("Sorted tells the list that was handed in: %q", room)
	}
}

// spoil changes all of a list, and its spare room.
func spoil(l []string) {
	l = l[:cap(l)]
	for i := range l {
		l[i] = "spoilt"
	}
}

// R2: what comes out is new memory, spare room too.
func TestComesOutNew(t *testing.T) {
	for n := range 20 {
		parts := slices.Repeat([]string{"a"}, n)
		path := strings.Repeat("a/", n)
		p, _ := names.Split(path)
		q, _ := names.Split(path)
		spoil(p.Parts)
		if !slices.Equal(q.Parts, parts) {
			t.Errorf("two paths share memory: %q", q.Parts)
		}
		wantSplit(t, path, false, parts...)

		words := strings.Repeat("a ", n)
		l, _ := names.Words(words)
		m, _ := names.Words(words)
		spoil(l)
		if !slices.Equal(m, parts) {
			t.Errorf("two lists of words share memory: %q", m)
		}
		wantWords(t, words, parts...)

		some := []string{"b", "a", "c", "a"}[:n%5]
		l, m = names.Sorted(some...), names.Sorted(some...)
		want := slices.Clone(m)
		spoil(l)
		if !slices.Equal(m, want) || !slices.Equal(names.Sorted(some...), want) {
			t.Errorf("two sorted lists share memory: %q", m)
		}
	}
}

// R2: a list that has nothing in it may be nil or not.
func TestNilIsEmpty(t *testing.T) {
	if names.Join(api.Path{Parts: []string{}}) != names.Join(api.Path{}) || len(names.Sorted([]string{}...)) != 0 || len(names.Sorted(nil...)) != 0 {
		t.Error("nil and empty differ")
	}
}

// R3: the same calls are answered the same, whatever was asked between.
func TestSameAgain(t *testing.T) {
	for range 3 {
		wantClean(t, "a/../../b", "../b")
		wantMatch(t, "*.[ch]", "main.c", true)
		wantWords(t, "a 'b c'", "a", "b c")
		wantUnder(t, "/a", "/a/b", "b", true)
		names.Clean("\xff")
		names.Match("[", "a")
		names.Words("a 'b")
		names.Words(`'\`)
	}
}

// R4: nothing goes on when a call has answered.
func TestNoGoroutines(t *testing.T) {
	was := runtime.NumGoroutine()
	names.Split("/a/b")
	names.Clean("a/\xff/..")
	names.Under("/a", "/a/b")
	names.Match("*a", "ba")
	names.Match("[", "")
	names.Sorted("b", "a")
	names.Words("a 'b")
	names.Words("a 'b'")
	if n := runtime.NumGoroutine(); n > was {
		t.Errorf("%d goroutines more", n-was)
	}
}
