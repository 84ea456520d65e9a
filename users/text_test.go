package users_test

import (
	"fmt"
	"math/rand"
	"strings"
	"testing"

	"verger/api"
)

// The chapter's examples 2 and 4.
func TestParseExamples(t *testing.T) {
	wantRefused(t, "a:::\na:::", api.ErrUsersTwice, 2)
	wantRefused(t, "a:b::", api.ErrUsersNone, 1)
	wantRefused(t, "a::", api.ErrUsersLine, 1)
	wantRefused(t, "a::a,:", api.ErrUsersLine, 1)
	wantRefused(t, "a::a,a:", api.ErrUsersTwice, 1)
	if s := parsed(t, "").Text(); s != "" {
		t.Errorf("the empty table's text: %q", s)
	}
	wantTable(t, parsed(t, ""), nil)
}

func TestParseOrdinary(t *testing.T) {
	wantTable(t, parsed(t, "a:b:c,a:k\nb:::\nc::b:#,/\n"), []api.Account{
		{Name: "a", Leader: "b", Members: []string{"c", "a"}, Key: "k"}, {Name: "b"}, {Name: "c", Members: []string{"b"}, Key: "#,/"}})
	for _, text := range []string{"a:::", "a:::\n", "a:a:a:a", "\n\n\na:::\n\n", "#\n# a:::\n#a::\na:::\n#\xff\x00", "-:-:-:-", "-a:::", "--:::", ".:::", "..:::", "é😀:é😀:é😀:", "\ufffd:::", "a\u00a0b:::", "\u0085:::", "'\":::", `\:::`, "[*?]:::",
		"a::b,c,a:\nb:::\nc:::", "z:::\ny:z:z,x:\nx:y::", "a:::!~", "a:::" + strings.Repeat("~", 32), strings.Repeat("a", 32) + ":::", strings.Repeat("é", 16) + "::" + strings.Repeat("é", 16) + ":", strings.Repeat("😀", 8) + ":::"} {
		parsed(t, text)
		wantParse(t, text)
	}
}

// Lines that are no accounts.
func TestParseLine(t *testing.T) {
	long := strings.Repeat("a", 33)
	for _, line := range []string{"a", "a:", "a::", "a::::", "a:::k:", ":::", ":a::", "::a:", ":::k", " ", "\t", "\r", " a:::", "a :::", "a:::\r", "a::: ", "a::: k", " #", "a#:::", "a/:::", "/:::", "a,b:::", ",:::", "a\x00:::", "a\x1f:::", "a\x7f:::", "\x7f:::",
		"\xff:::", "a\xc3:::", "\xed\xa0\x80:::", "\xc0\x80:::", "a:a/::", "a:a b::", "a:a,a::", "a:\xff::", "a:,::", "a:#::", "a::,:", "a::a,:", "a::,a:", "a::a,,a:", "a::a b:", "a::a/:", "a::#:", "a::\xff:", "a::a, a:", "a:::\x7f", "a:::é", "a:::\xff", "a:::\x00",
		long + ":::", "a:" + long + "::", "a::" + long + ":", "a::a," + long + ":", "a:::" + long, strings.Repeat("é", 16) + "a:::", strings.Repeat("é", 17) + ":::", strings.Repeat(":", 70), "-a", "--", "\ufeff#", "a:::\vb"} {
		wantRefused(t, line, api.ErrUsersLine, 1)
		wantRefused(t, line+"\na:::\n", api.ErrUsersLine, 1)
		wantRefused(t, "\n#"+line+"\na:::\nb:::\n"+line+"\n", api.ErrUsersLine, 5)
		wantRefused(t, "a:b::\n\n\n"+line, api.ErrUsersLine, 4)
	}
}

// Each byte, in each of the fields.
func TestParseBytes(t *testing.T) {
	for b := range 256 {
		s := string([]byte{byte(b)})
		for _, name := range []string{s, "a" + s, s + "a", "a" + s + "a", "\xc3" + s, strings.Repeat("a", 31) + s, strings.Repeat("a", 32) + s} {
			wantParse(t, name+":::")
			wantParse(t, "a:::\nb:"+name+"::")
			wantParse(t, "a:::\nb::"+name+":")
			wantParse(t, "a:::\nb::a,"+name+":")
			wantParse(t, "a:::\nb:::"+name)
			wantParse(t, name)
			wantParse(t, name+"\na::")
		}
	}
}

// Which error there is, and of which line, where there are several.
func TestParseFirst(t *testing.T) {
	// Of a line that is none ahead of whoever stands twice below it, and the other way round.
	wantRefused(t, "a:::\na::\na:::\n", api.ErrUsersLine, 2)
	wantRefused(t, "a:::\na:::\na::\n", api.ErrUsersTwice, 2)
	wantRefused(t, "a::b,b:\nb::\n", api.ErrUsersTwice, 1)
	wantRefused(t, "a:::\na::x,x,:\n", api.ErrUsersLine, 2)
	wantRefused(t, "#\n\na:::\n#a:::\n\na:::", api.ErrUsersTwice, 6)
	wantRefused(t, "a:::\nb:::\nc:::\nb:::\na:::", api.ErrUsersTwice, 4)
	// Who has no line is asked for behind all else.
	wantRefused(t, "a:x::\nb:::\nb:::", api.ErrUsersTwice, 3)
	wantRefused(t, "a::x:\n#\nb::b,b:", api.ErrUsersTwice, 3)
	wantRefused(t, "a:x::\nb:", api.ErrUsersLine, 2)
	wantRefused(t, "b:::\n\na:b:x:\nc:y::", api.ErrUsersNone, 3)
	wantRefused(t, "b:::\n\na::b,x:\nc:y::", api.ErrUsersNone, 3)
	wantRefused(t, "b:::\n\nc:y::\na:b:x:", api.ErrUsersNone, 3)
	wantRefused(t, "a::b:\n#b:::", api.ErrUsersNone, 1)
	wantRefused(t, "a:A::", api.ErrUsersNone, 1)
	wantRefused(t, "ab:::\na:::\nc::b:", api.ErrUsersNone, 3)
	parsed(t, "a:b:c:\nb:c:a:\nc:a:b:")
}

// A text of 65536 bytes is one; of more it is none, whatever stands in it; and the table's own text is not longer, either.
func TestParseLong(t *testing.T) {
	remark := func(n int) string { return strings.Repeat("#", n) }
	parsed(t, remark(65536))
	parsed(t, strings.Repeat("\n", 65536))
	parsed(t, "a:::\n"+remark(65531))
	parsed(t, remark(65531)+"\na:::")
	wantRefused(t, remark(65537), api.ErrArg, 0)
	wantRefused(t, "a:::\n"+remark(65532), api.ErrArg, 0)
	wantRefused(t, "a::"+remark(65534), api.ErrArg, 0)
	wantRefused(t, strings.Repeat("a:::\n", 14000), api.ErrArg, 0)
	wantRefused(t, strings.Repeat("a", 65536), api.ErrUsersLine, 1)
	wantRefused(t, strings.Repeat("\n", 65535)+"a", api.ErrUsersLine, 65536)
	wantRefused(t, strings.Repeat(":", 65536), api.ErrUsersLine, 1)
	wantRefused(t, "a::"+strings.Repeat(",", 65532)+":", api.ErrUsersLine, 1)

	full := fullText()
	wantParse(t, full[len(full)-1000:])
	if s := parsed(t, full).Text(); s != full {
		t.Errorf("a text of 65536 bytes: Text has %d", len(s))
	}
	open := strings.TrimSuffix(full, "\n")
	if s := parsed(t, open).Text(); s != full {
		t.Errorf("a text of 65535 bytes: Text has %d", len(s))
	}
	wantRefused(t, open+"k", api.ErrArg, 0)
	wantRefused(t, full+"\n", api.ErrArg, 0)
	// That is asked last.
	wantRefused(t, strings.Replace(open, "0000:::k", "0000:x::", 1)+"k", api.ErrUsersNone, 1)
	wantRefused(t, strings.Replace(open, "0001:::k", "0000:::k", 1)+"k", api.ErrUsersTwice, 2)
	wantRefused(t, open+":", api.ErrUsersLine, 7280)
}

// fullText is a table's text of 65536 bytes: 7280 accounts, in lines of 9 bytes, but for the last one, whose key is longer.
func fullText() string {
	var s strings.Builder
	for i := range 7280 {
		s.WriteString(fmt.Sprintf("%04d:::k\n", i))
	}
	return strings.TrimSuffix(s.String(), "\n") + strings.Repeat("k", 16) + "\n"
}

// Short texts, one by one, against the model.
func TestParseEach(t *testing.T) {
	for _, text := range each(6, "a", "b", ":", ",", "\n", "#") {
		wantParse(t, text)
	}
	for _, text := range each(6, "a", ":", "::", ":::", "b", ",", "\n") {
		wantParse(t, text)
	}
	for _, text := range each(4, "a:::\n", "b:::\n", "a:b::\n", "b::a,b:k\n", "a::a,a:\n", "b::c:\n", "#\n", "\n", "a::\n", "c:a:b:") {
		wantParse(t, text)
	}
}

// Texts with and without faults, against the model.
func TestParseMixed(t *testing.T) {
	rnd := rand.New(rand.NewSource(1))
	tables := 0
	for range 10000 {
		text := ""
		for _, a := range someTable(rnd, 8) {
			text += some(rnd, 1, "\n", "#\n", "# "+someLine(rnd)) + lineOf(a) + "\n"
		}
		if rnd.Intn(2) == 0 {
			text = damaged(rnd, text)
		}
		wantParse(t, text)
		if _, e, _ := parseOf(text); e == api.OK {
			tables++
		}
	}
	if tables < 2500 || tables > 9000 {
		t.Errorf("%d of 10000 are tables", tables)
	}
}

// someLine is what may stand in a remark.
func someLine(rnd *rand.Rand) string {
	return strings.ReplaceAll(someBytes(rnd), "\n", " ") + "\n"
}

// damaged is a text with a byte more, or less, or another one, or a line more.
func damaged(rnd *rand.Rand, text string) string {
	at := rnd.Intn(len(text) + 1)
	switch piece := []string{":", ",", "\n", "#", "a", " ", "b", "-", "\xff"}[rnd.Intn(9)]; rnd.Intn(4) {
	case 0:
		return text[:at] + piece + text[at:]
	case 1:
		return text[:at] + text[min(at+1, len(text)):]
	case 2:
		return text[:at] + piece + text[min(at+1, len(text)):]
	}
	return text + lineOf(someAccount(rnd, "b", []string{"a", "b", "c"}))
}
