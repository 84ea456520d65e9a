package names_test

import (
	"math/rand"
	"reflect"
	"slices"
	"strings"
	"testing"

	"verger/api"
	"verger/names"
)

func wantCheck(t *testing.T, name string, is bool) {
	t.Helper()
	want := api.ErrName
	if is {
		want = api.OK
	}
	if e := names.Check(name); e != want {
		t.Errorf("Check(%s): %d", short(name), e)
	}
}

func TestCheck(t *testing.T) {
	for _, name := range []string{"a", "ab", "A", "0", "...", "....", ".a", "..a", "a.", "a..", " ", "  ", "\t", "\n", "\x01", "\x7f", `\`, "*", "'", "~", "é", "€", "😀", "\ufffd", "a b",
		strings.Repeat("x", 254), strings.Repeat("x", 255), strings.Repeat(".", 255), strings.Repeat("é", 127), strings.Repeat("é", 127) + "x", strings.Repeat("€", 85)} {
		wantCheck(t, name, true)
	}
	for _, name := range []string{"", ".", "..", "/", "a/", "/a", "a/b", "./", "../", "\x00", "a\x00", "\x00a", "\xff", "a\xff", "\xc3", "\xc3(", "\xed\xa0\x80", "\xc0\xaf", "\xf4\x90\x80\x80",
		strings.Repeat("x", 256), strings.Repeat("x", 70000), strings.Repeat("é", 128), strings.Repeat("€", 85) + "x", strings.Repeat("x", 254) + "/", strings.Repeat("x", 254) + "\xff"} {
		wantCheck(t, name, false)
	}
}

// Each byte, alone and in the midst of others.
func TestCheckBytes(t *testing.T) {
	for b := range 256 {
		s := string([]byte{byte(b)})
		for _, name := range []string{s, "a" + s, s + "a", "a" + s + "a", "\xc3" + s, s + "."} {
			wantCheck(t, name, isName(name))
		}
	}
}

func wantSplit(t *testing.T, path string, isRooted bool, parts ...string) {
	t.Helper()
	p, e := names.Split(path)
	if e != api.OK || p.Rooted != isRooted || !slices.Equal(p.Parts, parts) {
		t.Errorf("Split(%s): %v %q, %d; want %v %q", short(path), p.Rooted, p.Parts, e, isRooted, parts)
	}
}

func TestSplit(t *testing.T) {
	long := strings.Repeat("x", 255)
	wantSplit(t, "", false)
	wantSplit(t, ".", false)
	wantSplit(t, "./.", false)
	wantSplit(t, "/", true)
	wantSplit(t, "//", true)
	wantSplit(t, "/.", true)
	wantSplit(t, "/./", true)
	wantSplit(t, "a", false, "a")
	wantSplit(t, "a/", false, "a")
	wantSplit(t, "a//", false, "a")
	wantSplit(t, "./a", false, "a")
	wantSplit(t, ".//a", false, "a")
	wantSplit(t, "/a", true, "a")
	wantSplit(t, "//a/./b/..", true, "a", "b", "..")
	wantSplit(t, "..", false, "..")
	wantSplit(t, "/..", true, "..")
	wantSplit(t, "../../a/../..", false, "..", "..", "a", "..", "..")
	wantSplit(t, "a/b/c/d", false, "a", "b", "c", "d")
	wantSplit(t, "a/a/a", false, "a", "a", "a")
	wantSplit(t, ".../.a/a./..a", false, "...", ".a", "a.", "..a")
	wantSplit(t, " / a/\n", false, " ", " a", "\n")
	wantSplit(t, `é/€\/a`, false, "é", `€\`, "a")
	wantSplit(t, "/"+long+"/"+long, true, long, long)
}

// Names may be long; a path name may be as long as it will.
func TestSplitLong(t *testing.T) {
	want := slices.Repeat([]string{"a"}, 100000)
	wantSplit(t, strings.Repeat("/a", 100000), true, want...)
	wantSplit(t, strings.Repeat("a/./", 100000), false, want...)
	wantSplit(t, strings.Repeat("/", 200000), true)
}

// What has one wrong part is none, whichever one it is; with the error there is nothing else.
func TestSplitRefused(t *testing.T) {
	for _, bad := range []string{strings.Repeat("x", 256), strings.Repeat("é", 128), "\x00", "a\x00b", "\xff", "a\xff", "\xe2\x82", strings.Repeat(".", 256)} {
		for _, path := range []string{bad, "/" + bad, bad + "/", "a/" + bad, bad + "/a", "/a/" + bad + "/b", "../" + bad, bad + "/..", "/" + bad + "/../a", "./" + bad + "/."} {
			if p, e := names.Split(path); e != api.ErrPath || p.Rooted || len(p.Parts) != 0 {
				t.Errorf("Split(%s): %+v, %d", short(path), p, e)
			}
			if s, e := names.Clean(path); e != api.ErrPath || s != "" {
				t.Errorf("Clean(%s): %s, %d", short(path), short(s), e)
			}
		}
	}
}

func TestJoin(t *testing.T) {
	for _, c := range []struct {
		isRooted bool
		parts    []string
		want     string
	}{
		{false, nil, "."}, {false, []string{}, "."}, {true, nil, "/"}, {true, []string{}, "/"},
		{false, []string{"a"}, "a"}, {true, []string{"a"}, "/a"}, {false, []string{"a", "b"}, "a/b"}, {true, []string{"a", "b", "c"}, "/a/b/c"},
		{false, []string{".."}, ".."}, {true, []string{"a", ".."}, "/a/.."}, {false, []string{"..", "..", "a"}, "../../a"},
		// Parts are taken as they are, whatever they are.
		{false, []string{""}, ""}, {true, []string{""}, "/"}, {false, []string{"", ""}, "/"}, {true, []string{"", ""}, "//"}, {false, []string{"."}, "."}, {true, []string{".", "."}, "/./."},
		{false, []string{"a/b", "/"}, "a/b//"}, {false, []string{"\xff", "\x00"}, "\xff/\x00"}, {true, []string{strings.Repeat("x", 300)}, "/" + strings.Repeat("x", 300)},
	} {
		if s := names.Join(api.Path{Rooted: c.isRooted, Parts: c.parts}); s != c.want {
			t.Errorf("Join(%v, %q): %q; want %q", c.isRooted, c.parts, s, c.want)
		}
	}
}

func wantClean(t *testing.T, path, want string) {
	t.Helper()
	if s, e := names.Clean(path); s != want || e != api.OK {
		t.Errorf("Clean(%s): %s, %d; want %s", short(path), short(s), e, short(want))
	}
}

func TestClean(t *testing.T) {
	for _, c := range [][2]string{
		{"", "."}, {".", "."}, {"./", "."}, {"././.", "."}, {"/", "/"}, {"//", "/"}, {"/.", "/"}, {"/./", "/"},
		{"a", "a"}, {"a/", "a"}, {"./a", "a"}, {"a/.", "a"}, {"a//b", "a/b"}, {"/a", "/a"}, {"//a/./b/..", "/a"},
		{"a/..", "."}, {"/a/..", "/"}, {"a/../..", ".."}, {"a/../../b", "../b"}, {"a/b/..", "a"}, {"a/b/../..", "."}, {"a/b/../../..", ".."}, {"a/b/../c", "a/c"}, {"a/../b/..", "."},
		{"..", ".."}, {"../", ".."}, {"../..", "../.."}, {"../a", "../a"}, {"../a/..", ".."}, {"../../a/../b", "../../b"}, {"../a/../..", "../.."},
		{"/..", "/"}, {"/../..", "/"}, {"/../a", "/a"}, {"/../a/..", "/"}, {"/a/../..", "/"}, {"/a/../../b", "/b"}, {"/../../a/../../b/c/..", "/b"},
		{"...", "..."}, {"/.../..", "/"}, {".../....", ".../...."}, {"é/../ü", "ü"}, {"a/../a", "a"},
	} {
		wantClean(t, c[0], c[1])
	}
	wantClean(t, strings.Repeat("a/", 50000)+strings.Repeat("../", 50000), ".")
	wantClean(t, strings.Repeat("a/", 50000)+strings.Repeat("../", 50001), "..")
	wantClean(t, "/"+strings.Repeat("a/../", 50000)+"b", "/b")
	wantClean(t, strings.Repeat("../", 50000), strings.Repeat("../", 49999)+"..")
}

// Split, Join and Clean do with each path name of a few pieces what the model does.
func TestEachPath(t *testing.T) {
	for _, path := range each(6, "/", "a", "b", ".", "..") {
		parts, _ := partsOf(path)
		wantSplit(t, path, rooted(path), parts...)
		want, _ := cleanOf(path)
		wantClean(t, path, want)
	}
}

func TestSomePaths(t *testing.T) {
	rnd := rand.New(rand.NewSource(1))
	bad := 0
	for range 30000 {
		path := somePath(rnd)
		if rnd.Intn(4) == 0 {
			path += someBytes(rnd)
		}
		want, ok := cleanOf(path)
		if ok {
			wantClean(t, path, want)
			parts, _ := partsOf(path)
			wantSplit(t, path, rooted(path), parts...)
			continue
		}
		bad++
		if s, e := names.Clean(path); s != "" || e != api.ErrPath {
			t.Errorf("Clean(%q): %q, %d", path, s, e)
		}
		if p, e := names.Split(path); !reflect.DeepEqual(p, api.Path{}) || e != api.ErrPath {
			t.Errorf("Split(%q): %+v, %d", path, p, e)
		}
	}
	if bad < 1000 || bad > 10000 {
		t.Errorf("%d paths are none", bad)
	}
}

func wantUnder(t *testing.T, top, path, want string, is bool) {
	t.Helper()
	if rest, ok := names.Under(top, path); rest != want || ok != is {
		t.Errorf("Under(%s, %s): %s, %v; want %s, %v", short(top), short(path), short(rest), ok, short(want), is)
	}
}

func TestUnder(t *testing.T) {
	for _, c := range [][3]string{
		{"/a", "/a/b/c", "b/c"}, {"/a", "/a", "."}, {"/", "/", "."}, {"/", "/a", "a"}, {"/", "/a/b", "a/b"}, {"/a/b", "/a/b/c", "c"}, {"/a/a", "/a/a/a/a", "a/a"},
		{".", ".", "."}, {".", "a", "a"}, {".", "a/b", "a/b"}, {"a", "a", "."}, {"a", "a/b", "b"}, {"a/b", "a/b", "."},
		{"..", "..", "."}, {"..", "../x", "x"}, {"../..", "../../a/b", "a/b"}, {"../a", "../a/b", "b"}, {"...", ".../a", "a"}, {".", "...", "..."},
	} {
		wantUnder(t, c[0], c[1], c[2], true)
	}
	for _, c := range [][2]string{
		{"/a", "/ab"}, {"/a/b", "/a"}, {"/a", "/b"}, {"/a", "/"}, {"/a", "/b/a"}, {"/a/b", "/a/c/b"}, {"a", "ab"}, {"a", "b"}, {"a", "."}, {"a", ".."}, {"a/b", "a"},
		{"..", "../.."}, {".", ".."}, {".", "../a"}, {"..", "../../a"}, {"../..", ".."}, {"../a", "../.."}, {"..", "a"}, {"..", "."}, {"a", "../a"}, // what stands there leads up, not down
		{"/", "."}, {"/", "a"}, {"/a", "a"}, {".", "/"}, {"a", "/a"}, {".", "/a"}, {"..", "/"}, // rooted or not
		{"/a/", "/a/b"}, {"", "a"}, {"", ""}, {"", "."}, {".", ""}, {"./a", "a/b"}, {"a", "a/"}, {"a", "./a"}, {"a", "a//b"}, {"a", "a/./b"}, {"a", "a/b/../c"}, {"a/../b", "b/c"},
		{"/", "//a"}, {"/", "/.."}, {"/..", "/"}, {"//", "/a"}, {"/.", "/a"}, {"/", "/a/"}, {"a/..", "a"}, // not clean
		{"\xff", "\xff"}, {"a", "a/\xff"}, {"/\x00", "/\x00/a"}, {".", strings.Repeat("x", 256)}, {strings.Repeat("x", 256), strings.Repeat("x", 256) + "/a"}, // none
	} {
		wantUnder(t, c[0], c[1], "", false)
	}
}

func TestEachUnder(t *testing.T) {
	paths := each(4, "/", "a", ".", "..")
	are := 0
	for _, top := range paths {
		for _, path := range paths {
			want, is := underOf(top, path)
			wantUnder(t, top, path, want, is)
			if is {
				are++
			}
		}
	}
	if are < 40 {
		t.Errorf("%d pairs", are)
	}
}

func TestSomeUnder(t *testing.T) {
	rnd := rand.New(rand.NewSource(2))
	for range 20000 {
		top, _ := cleanOf(somePath(rnd))
		path := top + some(rnd, 1, "/") + somePath(rnd)
		if rnd.Intn(3) > 0 {
			path, _ = cleanOf(path)
		}
		want, is := underOf(top, path)
		wantUnder(t, top, path, want, is)
	}
}
