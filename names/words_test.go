package names_test

import (
	"math/rand"
	"slices"
	"strings"
	"testing"

	"verger/api"
	"verger/names"
)

func TestSorted(t *testing.T) {
	for _, c := range []struct{ l, want []string }{
		{nil, nil}, {[]string{}, nil}, {[]string{"a"}, []string{"a"}}, {[]string{""}, []string{""}}, {[]string{"", ""}, []string{""}},
		{[]string{"b", "a", "ab", "b"}, []string{"a", "ab", "b"}}, {[]string{"a", "a", "a"}, []string{"a"}}, {[]string{"c", "b", "a"}, []string{"a", "b", "c"}}, {[]string{"a", "b", "a", "b"}, []string{"a", "b"}},
		{[]string{"abc", "ab", "a", ""}, []string{"", "a", "ab", "abc"}}, {[]string{"a", "B", "10", "9", "_"}, []string{"10", "9", "B", "_", "a"}},
		{[]string{"é", "z", "😀", "\ufffd", "\xff", "\x00", "\x7f"}, []string{"\x00", "z", "\x7f", "é", "\ufffd", "😀", "\xff"}}, {[]string{"a ", "a", "a\x00", "a/b", "a.b"}, []string{"a", "a\x00", "a ", "a.b", "a/b"}},
	} {
		if got := names.Sorted(c.l...); !slices.Equal(got, c.want) {
			t.Errorf("Sorted(%q): %q; want %q", c.l, got, c.want)
		}
	}
	if got := names.Sorted("b", "a"); !slices.Equal(got, []string{"a", "b"}) {
		t.Errorf("Sorted of two: %q", got)
	}
	if got := names.Sorted(); len(got) != 0 {
		t.Errorf("Sorted of none: %q", got)
	}
}

// Each that was there is there once, and no other; each is below the next one, by the first byte at which they differ.
func TestSomeSorted(t *testing.T) {
	rnd := rand.New(rand.NewSource(4))
	for range 3000 {
		l := make([]string, rnd.Intn(30))
		for i := range l {
			l[i] = some(rnd, 4, "a", "b", "é", "\xff", "\x00")
		}
		got := names.Sorted(l...)
		for _, s := range l {
			if !slices.Contains(got, s) {
				t.Fatalf("Sorted(%q): %q", l, got)
			}
		}
		for i, s := range got {
			if !slices.Contains(l, s) || i > 0 && !below([]byte(got[i-1]), []byte(s)) {
				t.Fatalf("Sorted(%q): %q", l, got)
			}
		}
	}
}

func below(a, b []byte) bool {
	for i := range min(len(a), len(b)) {
		if a[i] != b[i] {
			return a[i] < b[i]
		}
	}
	return len(a) < len(b)
}

func wantQuoted(t *testing.T, word, want string) {
	t.Helper()
	if s := names.Quote(word); s != want {
		t.Errorf("Quote(%s): %s; want %s", short(word), s, want)
	}
}

func TestQuote(t *testing.T) {
	for _, plain := range []string{"a", "z", "A", "Z", "0", "9", "_", "-", ".", "/", ":", "+", ",", "@", "%", "=", "~", "..", "a/b.c", "/usr/glenda", "x=1,2", "~ann@host:+5%", "-_-", strings.Repeat("a", 100000)} {
		wantQuoted(t, plain, plain)
	}
	for _, c := range [][2]string{
		{"", `''`}, {"it's", `'it\'s'`}, {"'", `'\''`}, {"''", `'\'\''`}, {`\`, `'\\'`}, {`\x41`, `'\\x41'`}, {`a\'b`, `'a\\\'b'`},
		{" ", `' '`}, {"a b", `'a b'`}, {"\t", `'\x09'`}, {"\n", `'\x0a'`}, {"\r\n", `'\x0d\x0a'`}, {"\x00", `'\x00'`}, {"\x1f", `'\x1f'`}, {"\x7e", "~"}, {"\x7f", `'\x7f'`}, {"\x80", `'\x80'`}, {"\xff\\", `'\xff\\'`},
		{"é", `'\xc3\xa9'`}, {"aé", `'a\xc3\xa9'`}, {"😀", `'\xf0\x9f\x98\x80'`}, {"\ufffd", `'\xef\xbf\xbd'`}, {"\xab\xcd\xef", `'\xab\xcd\xef'`},
		{"#", `'#'`}, {"a#", `'a#'`}, {"#a", `'#a'`}, {`"a"`, `'"a"'`}, {"!$&()*;<>?[]^`{|}", "'!$&()*;<>?[]^`{|}'"}, {"ab ", `'ab '`},
	} {
		wantQuoted(t, c[0], c[1])
	}
}

// Each byte, alone and with another one.
func TestQuoteBytes(t *testing.T) {
	for b := range 256 {
		s := string([]byte{byte(b)})
		for _, word := range []string{s, "a" + s, s + "a", s + s, " " + s, s + "'"} {
			wantQuoted(t, word, quoteOf(word))
		}
	}
}

func wantWords(t *testing.T, line string, words ...string) {
	t.Helper()
	if l, e := names.Words(line); e != api.OK || !slices.Equal(l, words) {
		t.Errorf("Words(%s): %q, %d; want %q", short(line), l, e, words)
	}
}

func TestWords(t *testing.T) {
	wantWords(t, "")
	wantWords(t, " ")
	wantWords(t, " \t\t ")
	wantWords(t, "a", "a")
	wantWords(t, " a", "a")
	wantWords(t, "a\t", "a")
	wantWords(t, "a b", "a", "b")
	wantWords(t, "\ta \t b  c ", "a", "b", "c")
	wantWords(t, "a a a", "a", "a", "a")
	wantWords(t, "open /a/b.c rw,x=1", "open", "/a/b.c", "rw,x=1")
	// Nothing but blanks and tabs stands between words.
	wantWords(t, "a\nb\rc\vd\fe\u00a0f\u3000g\x00h", "a\nb\rc\vd\fe\u00a0f\u3000g\x00h")
	wantWords(t, "\n", "\n")
	// Out of quotes a backslash is itself, as is each other byte.
	wantWords(t, `\ \\ a\ b\x41 \n`, `\`, `\\`, `a\`, `b\x41`, `\n`)
	wantWords(t, `\''`, `\`)
	wantWords(t, `\'a b'`, `\a b`)
	wantWords(t, "# \"a b\" é \xff\x00", "#", `"a`, `b"`, "é", "\xff\x00")
}

func TestWordsInQuotes(t *testing.T) {
	wantWords(t, "''", "")
	wantWords(t, "'' ''", "", "")
	wantWords(t, "''''", "")
	wantWords(t, "a''", "a")
	wantWords(t, "''a", "a")
	wantWords(t, "a''b", "ab")
	wantWords(t, "'a'", "a")
	wantWords(t, "'a b'", "a b")
	wantWords(t, "'a''b'", "ab")
	wantWords(t, "'a' 'b'", "a", "b")
	wantWords(t, "'a'b'c'", "abc")
	wantWords(t, " a'b c'd  ''", "ab cd", "")
	wantWords(t, "' '\t'\t'", " ", "\t")
	wantWords(t, "a' 'b c", "a b", "c")
	wantWords(t, "'a\nb\x00\xff\"é'", "a\nb\x00\xff\"é")
	wantWords(t, `'\\'`, `\`)
	wantWords(t, `'\''`, "'")
	wantWords(t, `'\\\''`, `\'`)
	wantWords(t, `'\\' '\''x`, `\`, "'x")
	wantWords(t, `'\x41'`, "A")
	wantWords(t, `'\x414'`, "A4")
	wantWords(t, `'\x00\xff\x0a\xa0\x9f\xfe'`, "\x00\xff\n\xa0\x9f\xfe")
	wantWords(t, `'\xc3\xa9'`, "é")
	wantWords(t, `'\x27\x5c\x20\x5cx41'`, `'\ \x41`)
	wantWords(t, `a'\x20'b`, "a b")
	wantWords(t, "''\t'\\x41\\''", "", "A'")
	long := strings.Repeat("a b", 100000)
	wantWords(t, "'"+long+"' b", long, "b")
	wantWords(t, strings.Repeat("a ", 100000), slices.Repeat([]string{"a"}, 100000)...)
}

// What is read of a line that goes wrong is not told, however much it is.
func TestWordsRefused(t *testing.T) {
	for _, bad := range []string{
		"'", "a 'b", "a'", "'a", "''a'", "a b c'", "'''", "' ", "'a b\t", `'\'`, `'\\\'`, `'a\'`, // quotes without an end
		`'\`, `'\x`, `'\x4`, `'\x41`, // nor a whole sign
		`'\q'`, `'\n'`, `'\ '`, `'\"'`, `'\X41'`, `'\0'`, `'\é'`, "'\\\n'", "'\\\x00'", "'\\\xff'", // another backslash
		`'\x'`, `'\x4'`, `'\x4 '`, `'\xg0'`, `'\x0g'`, `'\xA0'`, `'\x0A'`, `'\xFF'`, `'\x 4'`, `'\x-1'`, `'\x+1'`, `'\x/0'`, `'\x:0'`, `'\x0:'`, "'\\x`0'", `'\x4''`, `'\xé'`, // not two digits
		`a b 'c' d'e\f' g`, `'a' '\\' '\' a`,
	} {
		if l, e := names.Words(bad); e != api.ErrQuote || len(l) != 0 {
			t.Errorf("Words(%q): %q, %d", bad, l, e)
		}
	}
}

func wantAsModel(t *testing.T, line string) api.Errno {
	t.Helper()
	want, wantErr := wordsOf(line)
	if got, e := names.Words(line); e != wantErr || !slices.Equal(got, want) {
		t.Fatalf("Words(%q): %q, %d; want %q, %d", line, got, e, want, wantErr)
	}
	return wantErr
}

// Each line of a few pieces.
func TestEachLine(t *testing.T) {
	for _, line := range each(7, "a", " ", "'", `\`, "x41") {
		wantAsModel(t, line)
	}
}

// Each byte: out of quotes, within them, behind a backslash, as a digit.
func TestWordsBytes(t *testing.T) {
	for b := range 256 {
		s := string([]byte{byte(b)})
		for _, line := range []string{s, "a" + s + "b", "'" + s + "'", `'\` + s + `'`, `'\` + s + `41'`, `'\x` + s + `1'`, `'\x1` + s + `'`, `'\x11` + s + `'`, `\` + s} {
			wantAsModel(t, line)
		}
	}
}

func TestSomeLines(t *testing.T) {
	rnd := rand.New(rand.NewSource(5))
	bad := 0
	for range 30000 {
		line := some(rnd, 14, "a", "é", " ", "\t", "'", "'", `\`, `\\`, `\'`, `\x41`, `\xff`, "\xff", "\n", "#", "x")
		if wantAsModel(t, line) != api.OK {
			bad++
		}
	}
	if bad < 3000 || bad > 27000 {
		t.Errorf("%d of 30000 are refused", bad)
	}
}
