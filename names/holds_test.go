package names_test

import (
	"math/rand"
	"slices"
	"strings"
	"testing"

	"verger/api"
	"verger/names"
)

func clean(t *testing.T, path string) string {
	t.Helper()
	s, e := names.Clean(path)
	if e != api.OK {
		t.Fatalf("Clean(%q): %d", path, e)
	}
	return s
}

// A clean path name is what Clean gives of it; it has no "." and no empty part, and ".." at its beginning alone, and only if it is not rooted.
func TestCleanIsClean(t *testing.T) {
	rnd := rand.New(rand.NewSource(6))
	for range 20000 {
		path := somePath(rnd)
		c := clean(t, path)
		if again := clean(t, c); again != c {
			t.Fatalf("Clean(%q): %q, of which it is %q", path, c, again)
		}
		if rooted(c) != rooted(path) || len(c) > max(len(path), 1) {
			t.Fatalf("Clean(%q): %q", path, c)
		}
		if c == "." || c == "/" {
			continue
		}
		down := rooted(c)
		for _, part := range strings.Split(strings.TrimPrefix(c, "/"), "/") {
			if part == "" || part == "." || part == ".." && down {
				t.Fatalf("Clean(%q): %q", path, c)
			}
			down = down || part != ".."
		}
	}
}

// Split of what Join makes of parts that Split gave is the same again.
func TestSplitOfJoin(t *testing.T) {
	rnd := rand.New(rand.NewSource(7))
	for range 20000 {
		path := somePath(rnd)
		p, _ := names.Split(path)
		again, e := names.Split(names.Join(p))
		if e != api.OK || again.Rooted != p.Rooted || !slices.Equal(again.Parts, p.Parts) {
			t.Fatalf("%q: %+v, then %+v, %d", path, p, again, e)
		}
	}
}

// place is a directory: each lies in one other, the root in itself.
type place struct {
	in   *place
	dirs map[string]*place
}

// someTree is a tree of directories, and all of them.
func someTree(rnd *rand.Rand) []*place {
	root := &place{dirs: map[string]*place{}}
	root.in = root
	all := []*place{root}
	for range 30 {
		in := all[rnd.Intn(len(all))]
		name := []string{"a", "b", "é", "...", " "}[rnd.Intn(5)]
		if in.dirs[name] == nil {
			in.dirs[name] = &place{in, map[string]*place{}}
			all = append(all, in.dirs[name])
		}
	}
	return all
}

// lead goes from a place by a path name, piece by piece; it may come to nothing.
func lead(root, from *place, path string) *place {
	if rooted(path) {
		from = root
	}
	for _, piece := range strings.Split(path, "/") {
		switch {
		case from == nil || piece == "" || piece == ".":
		case piece == "..":
			from = from.in
		default:
			from = from.dirs[piece]
		}
	}
	return from
}

// Where each directory lies in one other, what a path name leads to is what the clean one leads to.
func TestCleanLeadsThere(t *testing.T) {
	rnd := rand.New(rand.NewSource(8))
	there, changed := 0, 0
	for range 2000 {
		all := someTree(rnd)
		for range 50 {
			path, from := somePath(rnd), all[rnd.Intn(len(all))]
			to := lead(all[0], from, path)
			if to == nil {
				continue
			}
			there++
			c := clean(t, path)
			if c != path {
				changed++
			}
			if lead(all[0], from, c) != to {
				t.Fatalf("%q leads elsewhere than %q", c, path)
			}
		}
	}
	if there < 10000 || changed < 5000 {
		t.Errorf("%d came there, %d of them by another path", there, changed)
	}
}

// goal is where a path name leads to from far down, where no ".." comes to the root: some parents up, and from there on by names.
func goal(path string) string {
	ups, downs := 0, []string{}
	for _, piece := range strings.Split(path, "/") {
		switch {
		case piece == "" || piece == ".":
		case piece != "..":
			downs = append(downs, piece)
		case len(downs) > 0:
			downs = downs[:len(downs)-1]
		case !rooted(path):
			ups++
		}
	}
	return joinOf(rooted(path), append(slices.Repeat([]string{".."}, ups), downs...))
}

// Path names have the same clean one just when they lead to the same place; and it is the shortest of them.
func TestCleanIsShortest(t *testing.T) {
	shortest := map[string]string{}
	paths := each(6, "/", "a", ".", "..")
	for _, path := range paths {
		g := goal(path)
		if s, ok := shortest[g]; path != "" && (!ok || len(path) < len(s)) {
			shortest[g] = path
		}
	}
	of := map[string]string{}
	for _, path := range paths {
		c, g := clean(t, path), goal(path)
		if other, ok := of[c]; ok && other != g {
			t.Fatalf("%q leads to %q and to %q", c, g, other)
		}
		of[c] = g
		if goal(c) != g || len(c) > len(shortest[g]) {
			t.Errorf("Clean(%q): %q; %q is shorter, or it leads to %q", path, c, shortest[g], goal(c))
		}
	}
}

// The rest that Under tells, joined behind the top, and cleaned, is the path again.
func TestRestUnderTheTop(t *testing.T) {
	rnd := rand.New(rand.NewSource(9))
	are := 0
	for range 30000 {
		top := clean(t, somePath(rnd))
		path := clean(t, top+"/"+some(rnd, 6, "a", "b", "/", "/", ".."))
		rest, is := names.Under(top, path)
		if !is {
			continue
		}
		are++
		if got := clean(t, top+"/"+rest); got != path || rooted(rest) || clean(t, rest) != rest || strings.HasPrefix(rest+"/", "../") {
			t.Fatalf("Under(%q, %q): %q, which leads to %q", top, path, rest, got)
		}
	}
	if are < 10000 {
		t.Errorf("%d pairs", are)
	}
}

// Two names that match two patterns, one behind the other, match these, one behind the other.
func TestMatchBehind(t *testing.T) {
	rnd := rand.New(rand.NewSource(10))
	somePattern := func() string {
		return some(rnd, 4, "a", "b", "é", "*", "?", "[a-c]", "[^b]", "[^^]", `[\-\]]`, `\*`, `\\`, "]", "-", "^")
	}
	both := 0
	for range 200000 {
		p, q := somePattern(), somePattern()
		m, n := some(rnd, 4, "a", "b", "é", "]", "*"), some(rnd, 4, "a", "b", "é", "-", `\`)
		first, _ := names.Match(p, m)
		second, _ := names.Match(q, n)
		if first && second {
			both++
			wantMatch(t, p+q, m+n, true)
		}
	}
	if both < 1000 {
		t.Errorf("%d pairs", both)
	}
}

// A name with a backslash ahead of each character is a pattern that it matches alone.
func TestMatchItself(t *testing.T) {
	rnd := rand.New(rand.NewSource(11))
	for range 5000 {
		l := []string{some(rnd, 8, "a", "*", "?", "[", "]", "^", "-", `\`, "é", "😀"), some(rnd, 8, "a", "*", "[", "]", `\`)}
		pattern := ""
		for _, c := range l[0] {
			pattern += `\` + string(c)
		}
		wantMatch(t, pattern, l[0], true)
		wantMatch(t, pattern, l[1], l[0] == l[1])
	}
}

// The words of a line of quoted words, with blanks between, are these words, whatever bytes they have; what is quoted has bytes from 20 to 7e alone.
func TestWordsOfQuoted(t *testing.T) {
	rnd := rand.New(rand.NewSource(12))
	for range 20000 {
		words := make([]string, rnd.Intn(6))
		line := some(rnd, 2, " ", "\t")
		for i := range words {
			words[i] = someBytes(rnd)
			if rnd.Intn(2) == 0 {
				words[i] = some(rnd, 5, "a", "'", `\`, " ", `\x41`, "é", "/")
			}
			q := names.Quote(words[i])
			if strings.ContainsFunc(q, func(c rune) bool { return c < 0x20 || c > 0x7e }) || q == "" {
				t.Fatalf("Quote(%q): %q", words[i], q)
			}
			line += q + " " + some(rnd, 2, " ", "\t")
		}
		if rnd.Intn(2) == 0 {
			line = strings.TrimRight(line, " \t")
		}
		wantWords(t, line, words...)
	}
	for a := range 256 {
		for b := range 256 {
			word := string([]byte{byte(a), byte(b)})
			wantWords(t, names.Quote(word), word)
			wantWords(t, names.Quote(word)+names.Quote(word), word+word)
		}
	}
}
