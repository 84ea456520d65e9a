package names_test

import (
	"math/rand"
	"strings"
	"testing"

	"verger/api"
	"verger/names"
)

func wantMatch(t *testing.T, pattern, name string, want bool) {
	t.Helper()
	if is, e := names.Match(pattern, name); is != want || e != api.OK {
		t.Errorf("Match(%s, %s): %v, %d; want %v", short(pattern), short(name), is, e, want)
	}
}

// wantMatches takes names that match a pattern and, behind "but", names that do not.
func wantMatches(t *testing.T, pattern string, l ...string) {
	t.Helper()
	is := true
	for _, name := range l {
		if name == "but" {
			is = false
			continue
		}
		wantMatch(t, pattern, name, is)
	}
}

func TestMatchPlain(t *testing.T) {
	wantMatches(t, "", "", "but", "a", " ", "*")
	wantMatches(t, "a", "a", "but", "", "b", "A", "aa", "ab", "ba")
	wantMatches(t, "main.c", "main.c", "but", "main.", "main.cc", "mainxc", " main.c")
	wantMatches(t, "é", "é", "but", "e", "e\u0301", "è", "\xc3", "\xa9")
	wantMatches(t, "-]^", "-]^", "but", "]^", "-", "^")
	wantMatches(t, "a-z", "a-z", "but", "b", "a", "z")
	wantMatches(t, "]", "]")
	wantMatches(t, "^a", "^a", "but", "a", "b")
	wantMatches(t, " \t\n\x01\x7f", " \t\n\x01\x7f")
	wantMatches(t, "/.", "/.")
	wantMatches(t, "..", "..", "but", "ab")
	wantMatches(t, "😀\ufffd", "😀\ufffd", "but", "😀", "😀\xff", "😀x")
}

func TestMatchAny(t *testing.T) {
	wantMatches(t, "?", "a", "*", "?", "é", "€", "😀", "\ufffd", "/", "\n", "\x01", "but", "", "ab", "éé", "\xff", "\xc3", "\x00")
	wantMatches(t, "??", "ab", "éa", "..", "but", "", "é", "a", "abc")
	wantMatches(t, "a?c", "abc", "aéc", "a/c", "but", "ac", "abbc")
	wantMatches(t, "*", "", "a", "ab", "é€😀", "a/b", "\n", ".", "*", "but", "\xff", "a\xff", "\x00", "a\x00b", "é\x80")
	wantMatches(t, "**", "", "a", "abc", "but", "\xc3")
	wantMatches(t, "*?", "a", "ab", "é", "but", "")
	wantMatches(t, "?*", "a", "ab", "é", "but", "")
	wantMatches(t, "?*?", "ab", "abc", "but", "", "a", "é")
	wantMatches(t, "a*", "a", "aa", "ab", "abc", "but", "", "ba")
	wantMatches(t, "*a", "a", "aa", "ba", "abaca", "but", "", "ab")
	wantMatches(t, "*a*", "a", "bab", "aaa", "but", "", "b", "bcd")
	wantMatches(t, "*a*b", "xaaybb", "ab", "aab", "abb", "but", "xaayb.", "ba", "b", "a")
	wantMatches(t, "a*a", "aa", "aba", "aaa", "but", "a", "ab", "")
	wantMatches(t, "*ab*ab", "abab", "ababab", "xabxab", "abcab", "but", "ab", "aab", "aba", "abba")
	wantMatches(t, "*aab", "aaab", "aab", "aabaab", "but", "aaba", "ab")
	wantMatches(t, "a**b", "ab", "axb", "axxb", "but", "a", "b")
}

func TestMatchBackslash(t *testing.T) {
	wantMatches(t, `\*`, "*", "but", "a", "", `\*`, `\`)
	wantMatches(t, `\?`, "?", "but", "a")
	wantMatches(t, `\[a\]`, "[a]", "but", "a")
	wantMatches(t, `\[a]`, "[a]", "but", "a")
	wantMatches(t, `\\`, `\`, "but", `\\`, "")
	wantMatches(t, `\\*`, `\`, `\a`, "but", "a")
	wantMatches(t, `\a\é\n`, "aén", "but", "aé\n", `\a\é\n`)
	wantMatches(t, `*\*`, "*", "a*", "but", "a", "")
}

func TestMatchClass(t *testing.T) {
	wantMatches(t, "[a]", "a", "but", "", "b", "aa", "[a]")
	wantMatches(t, "[abc]", "a", "b", "c", "but", "d", "", "ab", "-")
	wantMatches(t, "[a-c]", "a", "b", "c", "but", "`", "d", "-", "A")
	wantMatches(t, "[b-b]", "b", "but", "a", "c", "-")
	wantMatches(t, "[a-cx-z]", "a", "c", "x", "z", "but", "d", "w", "{", "-")
	wantMatches(t, "[a-cq1-3]", "b", "q", "2", "but", "4", "0", "r", "-")
	wantMatches(t, "[c-ea-c]", "a", "b", "c", "d", "e", "but", "f")
	wantMatches(t, "[^a]", "b", "é", "^", "\n", "but", "a", "", "bc")
	wantMatches(t, "[^a-c]", "d", "`", "-", "^", "but", "a", "b", "c", "")
	wantMatches(t, "[^a-cx]", "d", "w", "y", "but", "a", "x")
	wantMatches(t, "[^^]", "a", "but", "^", "")
	wantMatches(t, "[a^]", "a", "^", "but", "b")
	wantMatches(t, "[a-c^]", "b", "^", "but", "d")
	wantMatches(t, "[^a^]", "b", "but", "a", "^")
	wantMatches(t, `[\^a]`, "^", "a", "but", "b", `\`)
	wantMatches(t, `[\^]`, "^", "but", "a", `\`)
	wantMatches(t, "[A-^]", "^", "Z", "but", "_", "@")
	wantMatches(t, "[^^-a]", "b", "]", "but", "^", "_", "a")
	wantMatches(t, `[\]a]`, "]", "a", "but", "b", `\`, "")
	wantMatches(t, `[\-a]`, "-", "a", "but", "b", ".", `\`)
	wantMatches(t, `[a\-]`, "-", "a", "but", "b")
	wantMatches(t, `[a\-c]`, "a", "-", "c", "but", "b")
	wantMatches(t, `[\a-\c]`, "a", "b", "c", "but", "d", `\`, "-")
	wantMatches(t, `[+-\-]`, "+", ",", "-", "but", "*", ".")
	wantMatches(t, `[\--/]`, "-", ".", "/", "but", ",", "0")
	wantMatches(t, `[\\]`, `\`, "but", "a", "]")
	wantMatches(t, `[\\-\]]`, `\`, "]", "but", "[", "^")
	wantMatches(t, "[[]", "[", "but", "]")
	wantMatches(t, "[*?]", "*", "?", "but", "a", "")
	wantMatches(t, "[é]", "é", "but", "e", "è", "\xc3", "\xa9")
	wantMatches(t, "[à-ü]", "à", "é", "ü", "but", "ß", "ý", "a")
	wantMatches(t, "[z-😀]", "z", "{", "é", "€", "\ufffd", "😀", "but", "y", "😁")
	wantMatches(t, "[^\x01-\U0010ffff]", "but", "", "a", "é", "😀")
	wantMatches(t, "[\x01-\U0010ffff]", "a", "é", "\x01", "\U0010ffff", "\ufffd", "but", "\x00", "\xff", "")
	wantMatches(t, "[a]b]", "ab]", "but", "a", "b", "]b]")
	wantMatches(t, "[/ \n]", "/", " ", "\n")
}

func TestMatchMixed(t *testing.T) {
	wantMatches(t, "*.[ch]", "main.c", "a.h", ".c", "a.c.h", "but", "main.d", "main.cc", "mainc", "main.", "")
	wantMatches(t, "[^a-c]?", "dx", "dé", "éa", "but", "d", "ax", "dxx", "")
	wantMatches(t, "*[0-9][0-9]", "00", "a123", "x1y22", "but", "1", "a1b2", "12a")
	wantMatches(t, "[a-z]*[^/]", "ab", "a b", "but", "a", "a/", "1b")
	wantMatches(t, "?[é]*", "aé", "éé€", "but", "é", "éa")
}

func wantNoPattern(t *testing.T, pattern string) {
	t.Helper()
	for _, name := range []string{"", "a", pattern, "\xff", "\x00", "[", "b]"} {
		if is, e := names.Match(pattern, name); is || e != api.ErrPattern {
			t.Errorf("Match(%s, %s): %v, %d", short(pattern), short(name), is, e)
		}
	}
}

func TestNoPattern(t *testing.T) {
	for _, bad := range []string{
		`\`, `a\`, `*\`, `\\\`, // nothing behind a backslash
		"[", "[a", "[a-", "[a-b", "[^", "[^a", "[^a-", "[[", "[^^", `[\`, `[a\`, `[a-\`, `[\]`, `[a\]`, `[^\]`, "[a*?", // a class without an end
		"[]", "[^]", "a[]b", "[]a]", "[^]a]", "[]-]", // of no range
		"[-]", "[-a]", "[a-]", "[^-a]", "[^a-]", "[^-]", "[a-b-c]", "[a-b-]", "[--a]", "[+--]", "[---]", "[a--b]", "[a-]b]", "[ab-]", // a hyphen that is none of a range
		"[b-a]", "[ab-a]", "[a-cz-y]", "[^b-a]", `[\b-\a]`, `[a-\]]`, `[a-\-]`, "[é-e]", "[€-é]", "[😀-\uffff]", "[^^-A]", // ends that are the wrong way round
		"\xff", "a\xff", "\x00", "a\x00", "*\xc3", "[\xff]", "[a-\xff]", "\\\xff", "\\\x00", "[\x00-a]", "é\x80", // no good text
		"*[", "a]b[", "*.[ch", "[a][", "[a]]]]][", `a*?[b]\c[d-c]`, // far behind
	} {
		wantNoPattern(t, bad)
	}
}

// A pattern has at most 255 bytes, however many characters these are; a name may be longer.
func TestMatchLong(t *testing.T) {
	for _, n := range []int{254, 255} {
		wantMatch(t, strings.Repeat("a", n), strings.Repeat("a", n), true)
		wantMatch(t, strings.Repeat("a", n), strings.Repeat("a", n+1), false)
		wantMatch(t, strings.Repeat("a", n), strings.Repeat("a", n-1), false)
		wantMatch(t, strings.Repeat("*", n), "", true)
		wantMatch(t, strings.Repeat("*", n), strings.Repeat("é", 1000), true)
		wantMatch(t, strings.Repeat("?", n), strings.Repeat("é", n), true)
		wantMatch(t, strings.Repeat("?", n), strings.Repeat("é", n-1), false)
		wantMatch(t, "["+strings.Repeat("b", n-2)+"]", "b", true)
	}
	wantMatch(t, strings.Repeat("é", 127)+"a", strings.Repeat("é", 127)+"a", true)
	wantMatch(t, strings.Repeat(`\*`, 127), strings.Repeat("*", 127), true)
	for _, bad := range []string{strings.Repeat("a", 256), strings.Repeat("*", 256), strings.Repeat("é", 128), strings.Repeat(`\*`, 128), "[" + strings.Repeat("b", 254) + "]", strings.Repeat("a", 70000)} {
		wantNoPattern(t, bad)
	}
	wantMatch(t, "a*b", "a"+strings.Repeat("é", 200000)+"b", true)
	wantMatch(t, "a*b", "a"+strings.Repeat("b", 200000)+"a", false)
}

// Many rows do not make it go back over the name again and again.
func TestMatchManyRows(t *testing.T) {
	pattern := strings.Repeat("a*", 127)
	wantMatch(t, pattern, strings.Repeat("a", 20000), true)
	wantMatch(t, pattern+"b", strings.Repeat("a", 20000), false)
	wantMatch(t, strings.Repeat("*a", 127), strings.Repeat("a", 126), false)
	wantMatch(t, strings.Repeat("*[^b]", 51), strings.Repeat("ba", 5000)+"b", false)
}

// Each pattern of a few pieces, held against each name of a few characters.
func TestEachPattern(t *testing.T) {
	some := append(each(2, "a", "b", "^", "-", "]"), "aba", "bab", "aaa", "a-b", "[a]")
	is, bad := 0, 0
	for _, pattern := range each(5, "a", "b", "*", "?", "[", "]", "^", "-", `\`) {
		re, ok := expression(pattern)
		if !ok {
			bad++
			if is, e := names.Match(pattern, "a"); is || e != api.ErrPattern {
				t.Errorf("Match(%q, ..): %v, %d", pattern, is, e)
			}
			continue
		}
		for _, name := range some {
			want := re.MatchString(name)
			wantMatch(t, pattern, name, want)
			if want {
				is++
			}
		}
	}
	if is < 5000 || bad < 10000 {
		t.Errorf("%d matches, %d that are no patterns", is, bad)
	}
}

func TestSomePatterns(t *testing.T) {
	rnd := rand.New(rand.NewSource(3))
	is, bad := 0, 0
	for range 30000 {
		pattern := some(rnd, 10, "a", "b", "c", "é", "*", "?", "[", "[^", "]", "-", "a-c", "[a-b]", "[^é-😀]", `\`, `\*`, "^")
		if rnd.Intn(20) == 0 {
			pattern += someBytes(rnd)
		}
		for range 4 {
			name := some(rnd, 6, "a", "b", "c", "d", "é", "😀", "-", "]", "*")
			if rnd.Intn(20) == 0 {
				name += someBytes(rnd)
			}
			want, wantErr := matchOf(pattern, name)
			got, e := names.Match(pattern, name)
			if got != want || e != wantErr {
				t.Fatalf("Match(%q, %q): %v, %d; want %v, %d", pattern, name, got, e, want, wantErr)
			}
			if want {
				is++
			}
			if e != api.OK {
				bad++
			}
		}
	}
	if is < 1000 || bad < 1000 {
		t.Errorf("%d matches, %d that are no patterns", is, bad)
	}
}
