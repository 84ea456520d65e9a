package names_test

import (
	"fmt"
	"math/rand"
	"regexp"
	"slices"
	"strconv"
	"strings"
	"unicode/utf8"

	"verger/api"
)

// The model: what the chapter says, in other words than the package's, to hold the package against.

func good(s string) bool { return utf8.ValidString(s) && !strings.Contains(s, "\x00") }

// isName tells whether Check has nothing against a name.
func isName(name string) bool {
	return good(name) && len(name) <= 255 && !slices.Contains([]string{"", ".", ".."}, name) && !strings.ContainsRune(name, '/')
}

// partsOf are a path name's parts, and whether it has the form of one.
func partsOf(path string) ([]string, bool) {
	var parts []string
	for _, piece := range strings.Split(path, "/") {
		switch {
		case piece == "" || piece == ".":
		case piece == ".." || isName(piece):
			parts = append(parts, piece)
		default:
			return nil, false
		}
	}
	return parts, true
}

func rooted(path string) bool { return strings.IndexByte(path, '/') == 0 }

// cleanOf is what Clean tells of a path name: pairs of a part and a ".." fall out of it one by one, till there are none any more.
func cleanOf(path string) (string, bool) {
	parts, ok := partsOf(path)
	if !ok {
		return "", false
	}
	for i := 0; i < len(parts); i++ {
		switch {
		case parts[i] != "..":
		case i > 0 && parts[i-1] != "..":
			parts = slices.Delete(parts, i-1, i+1)
			i = -1
		case i == 0 && rooted(path):
			parts = slices.Delete(parts, 0, 1)
			i = -1
		}
	}
	return joinOf(rooted(path), parts), true
}

func joinOf(isRooted bool, parts []string) string {
	s := strings.Join(parts, "/")
	if isRooted {
		s = "/" + s
	}
	if !isRooted && len(parts) == 0 {
		s = "."
	}
	return s
}

// underOf is what Under tells: the beginnings of a path's parts are gone through till one of them is the top.
func underOf(top, path string) (string, bool) {
	for _, s := range []string{top, path} {
		if c, ok := cleanOf(s); !ok || c != s {
			return "", false
		}
	}
	parts, _ := partsOf(path)
	for n := range len(parts) + 1 {
		if joinOf(rooted(path), parts[:n]) == top {
			rest := parts[n:]
			if len(rest) > 0 && rest[0] == ".." {
				return "", false
			}
			return joinOf(false, rest), true
		}
	}
	return "", false
}

// The chapter's form of a pattern, as a regular expression: "any", "plain", a "one", which is no "^" right behind a class's "[", a "range".
const (
	anyForm   = `[\x00-\x{10ffff}]`
	plainForm = `[^*?\[\\]`
	oneForm   = `(?:\\` + anyForm + `|[^\\\]\-])`
	firstForm = `(?:\\` + anyForm + `|[^\\\]\-^])`
	rangeForm = oneForm + `(?:-` + oneForm + `)?`
	classForm = `\[(?:\^(?:` + rangeForm + `)+|` + firstForm + `(?:-` + oneForm + `)?(?:` + rangeForm + `)*)\]`
	pieceForm = `(?:\*|\?|` + classForm + `|\\` + anyForm + `|` + plainForm + `)`
)

var (
	patternRe = regexp.MustCompile(`^(?:` + pieceForm + `)*$`)
	pieceRe   = regexp.MustCompile(pieceForm)
	rangeRe   = regexp.MustCompile(rangeForm)
	oneRe     = regexp.MustCompile(oneForm)
)

// expression is the regular expression for what matches a pattern, and whether it is one.
func expression(pattern string) (*regexp.Regexp, bool) {
	if !good(pattern) || len(pattern) > 255 || !patternRe.MatchString(pattern) {
		return nil, false
	}
	form := "^"
	for _, piece := range pieceRe.FindAllString(pattern, -1) {
		f, ok := pieceExpression(piece)
		if !ok {
			return nil, false
		}
		form += f
	}
	return regexp.MustCompile(form + "$"), true
}

func pieceExpression(piece string) (string, bool) {
	switch {
	case piece == "*":
		return anyForm + "*", true
	case piece == "?":
		return anyForm, true
	case piece[0] != '[':
		return fmt.Sprintf(`\x{%x}`, meantBy(piece)), true
	}
	form, ranges := "[", piece[1:len(piece)-1]
	if rest, ok := strings.CutPrefix(ranges, "^"); ok {
		form, ranges = "[^", rest
	}
	for _, r := range rangeRe.FindAllString(ranges, -1) {
		ends := oneRe.FindAllString(r, -1)
		first, last := meantBy(ends[0]), meantBy(ends[len(ends)-1])
		if last < first {
			return "", false
		}
		form += fmt.Sprintf(`\x{%x}-\x{%x}`, first, last)
	}
	return form + "]", true
}

// meantBy is the character that stands there, perhaps behind a backslash.
func meantBy(one string) rune {
	l := []rune(one)
	return l[len(l)-1]
}

// matchOf is what Match tells.
func matchOf(pattern, name string) (bool, api.Errno) {
	re, ok := expression(pattern)
	if !ok {
		return false, api.ErrPattern
	}
	return good(name) && re.MatchString(name), api.OK
}

const (
	escapeForm = `\\\\|\\'|\\x[0-9a-f][0-9a-f]`
	wordForm   = `(?:[^ \t']|'(?:[^'\\]|` + escapeForm + `)*')+`
)

var (
	lineRe   = regexp.MustCompile(`^[ \t]*(?:` + wordForm + `(?:[ \t]+` + wordForm + `)*[ \t]*)?$`)
	wordRe   = regexp.MustCompile(wordForm)
	quotesRe = regexp.MustCompile(`'(?:[^'\\]|` + escapeForm + `)*'`)
	escapeRe = regexp.MustCompile(escapeForm)
)

// wordsOf is what Words tells.
func wordsOf(line string) ([]string, api.Errno) {
	if !lineRe.MatchString(line) {
		return nil, api.ErrQuote
	}
	var words []string
	for _, word := range wordRe.FindAllString(line, -1) {
		words = append(words, quotesRe.ReplaceAllStringFunc(word, func(q string) string {
			return escapeRe.ReplaceAllStringFunc(q[1:len(q)-1], unescaped)
		}))
	}
	return words, api.OK
}

func unescaped(sign string) string {
	if sign[1] != 'x' {
		return sign[1:]
	}
	n, _ := strconv.ParseUint(sign[2:], 16, 8)
	return string([]byte{byte(n)})
}

var plainRe = regexp.MustCompile(`^[a-zA-Z0-9_./:+,@%=~-]+$`)

// quoteOf is what Quote tells.
func quoteOf(word string) string {
	if plainRe.MatchString(word) {
		return word
	}
	s := "'"
	for _, b := range []byte(word) {
		switch {
		case b < 0x20 || b > 0x7e:
			s += fmt.Sprintf(`\x%02x`, b)
		case b == '\'' || b == '\\':
			s += `\` + string(rune(b))
		default:
			s += string(rune(b))
		}
	}
	return s + "'"
}

// some is a text of at most so many of these pieces.
func some(rnd *rand.Rand, most int, of ...string) string {
	s := ""
	for range rnd.Intn(most + 1) {
		s += of[rnd.Intn(len(of))]
	}
	return s
}

// each is every text of at most so many of these pieces.
func each(most int, of ...string) []string {
	all, last := []string{""}, []string{""}
	for range most {
		var next []string
		for _, s := range last {
			for _, piece := range of {
				next = append(next, s+piece)
			}
		}
		all, last = append(all, next...), next
	}
	return all
}

func somePath(rnd *rand.Rand) string {
	return some(rnd, 1, "/") + some(rnd, 12, "/", "/", "/", "/", "a", "b", "é", ".", "..", "..", "...", " ")
}

func someBytes(rnd *rand.Rand) string {
	b := make([]byte, rnd.Intn(12))
	for i := range b {
		b[i] = byte(rnd.Intn(1 << (1 + rnd.Intn(8))))
	}
	return string(b)
}

func short(s string) string {
	if len(s) > 100 {
		return fmt.Sprintf("%q.. (%d bytes)", s[:100], len(s))
	}
	return strconv.Quote(s)
}
