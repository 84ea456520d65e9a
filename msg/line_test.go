package msg_test

import (
	"math/rand"
	"slices"
	"strings"
	"testing"

	"verger/api"
	"verger/msg"
)

// numberPlaces are lines with one number left out, by what stands on both sides of it, and the greatest that it may be.
func numberPlaces() [][3]string {
	const (
		one   = "255"
		two   = "65535"
		four  = "4294967295"
		eight = "18446744073709551615"
		from  = "Rstat 1 stat={type="
		to    = ` name="" uid="" gid="" muid=""}`
	)
	return [][3]string{
		{"Rflush ", "", two},
		{"Tversion ", ` msize=1 version=""`, two},
		{"Tversion 1 msize=", ` version="9P2000"`, four},
		{"Tauth 1 afid=", ` uname="" aname=""`, four},
		{"Tattach 1 fid=1 afid=", ` uname="" aname=""`, four},
		{"Tflush 1 oldtag=", "", two},
		{"Tclunk 1 fid=", "", four},
		{"Twalk 1 fid=1 newfid=", " names=[]", four},
		{"Topen 1 fid=1 mode=", "", one},
		{"Ropen 1 qid=0.0.1 iounit=", "", four},
		{`Tcreate 1 fid=1 name="" perm=`, " mode=1", four},
		{`Tcreate 1 fid=1 name="" perm=1 mode=`, "", one},
		{"Tread 1 fid=1 offset=", " count=1", eight},
		{"Tread 1 fid=1 offset=1 count=", "", four},
		{"Twrite 1 fid=1 offset=", " data=", eight},
		{"Rauth 1 qid=", ".0.0", one},
		{"Rauth 1 qid=0.", ".0", four},
		{"Rauth 1 qid=0.0.", "", eight},
		{"Rwalk 1 qids=[", ".0.0]", one},
		{"Rwalk 1 qids=[0.0.0 1.", ".0]", four},
		{"Rwalk 1 qids=[0.0.0 1.1.", " 2.2.2]", eight},
		{from, " dev=0 qid=0.0.0 mode=0 atime=0 mtime=0 length=0" + to, two},
		{from + "0 dev=", " qid=0.0.0 mode=0 atime=0 mtime=0 length=0" + to, four},
		{from + "0 dev=0 qid=", ".0.0 mode=0 atime=0 mtime=0 length=0" + to, one},
		{from + "0 dev=0 qid=0.", ".0 mode=0 atime=0 mtime=0 length=0" + to, four},
		{from + "0 dev=0 qid=0.0.", " mode=0 atime=0 mtime=0 length=0" + to, eight},
		{from + "0 dev=0 qid=0.0.0 mode=", " atime=0 mtime=0 length=0" + to, four},
		{from + "0 dev=0 qid=0.0.0 mode=0 atime=", " mtime=0 length=0" + to, four},
		{from + "0 dev=0 qid=0.0.0 mode=0 atime=0 mtime=", " length=0" + to, four},
		{from + "0 dev=0 qid=0.0.0 mode=0 atime=0 mtime=0 length=", to, eight},
		{"Twstat 1 fid=", " stat={type=0 dev=0 qid=0.0.0 mode=0 atime=0 mtime=0 length=0" + to, four},
	}
}

// more is the number that is one greater.
func more(digits string) string {
	b := []byte(digits)
	i := len(b) - 1
	for ; b[i] == '9'; i-- {
		b[i] = '0'
	}
	b[i]++
	return string(b)
}

func TestNumbers(t *testing.T) {
	for _, p := range numberPlaces() {
		front, back, most := p[0], p[1], p[2]
		for _, n := range []string{"0", "1", "9", "10", "255", most[:len(most)-1] + "0", most} {
			line := front + n + back
			m, at, e := msg.Parse(line)
			if e != api.OK || at != 0 {
				t.Errorf("Parse(%q): %d, %d", line, at, e)
			}
			if again := msg.Text(m); again != line {
				t.Errorf("Text of what Parse(%q) tells: %q", line, again)
			}
		}
		for _, n := range []string{more(most), most + "0", "1" + strings.Repeat("0", len(most)), "99999999999999999999", "18446744073709551616", strings.Repeat("9", 1000),
			"00", "01", "007", "0" + most, strings.Repeat("0", 1000), "", "-1", "+1", "x", "a", "f", "_1", "\u0661", "\xff", "-", ".", `"1"`} {
			wantWrongAt(t, front+n+back, len(front))
		}
	}
}

// A number ends with its last digit: what stands behind it is a part of its own.
func TestNumberEnds(t *testing.T) {
	for _, p := range numberPlaces() {
		for _, tail := range []string{"x", "a", "_0", "e3", "\x00", ",", "\u0660"} {
			wantWrongAt(t, p[0]+"12"+tail+p[1], len(p[0])+2)
		}
		wantWrongAt(t, p[0], len(p[0]))
		wantParsedAsModel(t, strings.TrimRight(p[0], " =.{["))
	}
}

// textsInQuotes are texts, and how they stand in quotes.
func textsInQuotes() [][2]string {
	return [][2]string{
		{"", `""`}, {"a", `"a"`}, {`"`, `"\""`}, {`\`, `"\\"`}, {`\"`, `"\\\""`}, {`"\`, `"\"\\"`}, {`""`, `"\"\""`}, {`\\`, `"\\\\"`}, {`\x41`, `"\\x41"`}, {`x`, `"x"`},
		{"\x01", `"\x01"`}, {"\t", `"\x09"`}, {"\n", `"\x0a"`}, {"\x0f\x10", `"\x0f\x10"`}, {"\x1f", `"\x1f"`}, {" ", `" "`}, {"!", `"!"`}, {"~", `"~"`}, {"\x7f", `"\x7f"`},
		{"\u0080", "\"\u0080\""}, {"é€😀", "\"é€😀\""}, {"\ufffd", "\"\ufffd\""}, {"\ufeff", "\"\ufeff\""}, {"\u2028", "\"\u2028\""}, {"\U0010ffff", "\"\U0010ffff\""},
		{"a b", `"a b"`}, {"] [}{=.'`", "\"] [}{=.'`\""}, {"a\x01b", `"a\x01b"`}, {"\x019", `"\x019"`}, {"\x01f", `"\x01f"`}, {`a"b" c="d`, `"a\"b\" c=\"d"`},
	}
}

// textPlaces are where texts stand: what is ahead and behind, and the message of a text.
func textPlaces() []struct {
	front, back string
	of          func(s string) api.Msg
} {
	const noughts = "type=0 dev=0 qid=0.0.0 mode=0 atime=0 mtime=0 length=0"
	return []struct {
		front, back string
		of          func(s string) api.Msg
	}{
		{"Rerror 9 ename=", "", func(s string) api.Msg { return api.Msg{Kind: api.Rerror, Tag: 9, Ename: s} }},
		{"Tversion 9 msize=1 version=", "", func(s string) api.Msg { return api.Msg{Kind: api.Tversion, Tag: 9, Msize: 1, Version: s} }},
		{"Tauth 9 afid=1 uname=", ` aname=""`, func(s string) api.Msg { return api.Msg{Kind: api.Tauth, Tag: 9, Afid: 1, Uname: s} }},
		{`Tauth 9 afid=1 uname="" aname=`, "", func(s string) api.Msg { return api.Msg{Kind: api.Tauth, Tag: 9, Afid: 1, Aname: s} }},
		{"Tcreate 9 fid=1 name=", " perm=0 mode=0", func(s string) api.Msg { return api.Msg{Kind: api.Tcreate, Tag: 9, Fid: 1, Name: s} }},
		{"Twalk 9 fid=1 newfid=2 names=[", "]", func(s string) api.Msg { return api.Msg{Kind: api.Twalk, Tag: 9, Fid: 1, Newfid: 2, Names: []string{s}} }},
		{`Twalk 9 fid=1 newfid=2 names=["b" `, ` "c"]`, func(s string) api.Msg {
			return api.Msg{Kind: api.Twalk, Tag: 9, Fid: 1, Newfid: 2, Names: []string{"b", s, "c"}}
		}},
		{"Rstat 9 stat={" + noughts + " name=", ` uid="" gid="" muid=""}`, func(s string) api.Msg { return api.Msg{Kind: api.Rstat, Tag: 9, Stat: api.Stat{Name: s}} }},
		{"Rstat 9 stat={" + noughts + ` name="" uid=`, ` gid="" muid=""}`, func(s string) api.Msg { return api.Msg{Kind: api.Rstat, Tag: 9, Stat: api.Stat{Uid: s}} }},
		{"Rstat 9 stat={" + noughts + ` name="" uid="" gid=`, ` muid=""}`, func(s string) api.Msg { return api.Msg{Kind: api.Rstat, Tag: 9, Stat: api.Stat{Gid: s}} }},
		{"Twstat 9 fid=1 stat={" + noughts + ` name="" uid="" gid="" muid=`, "}", func(s string) api.Msg { return api.Msg{Kind: api.Twstat, Tag: 9, Fid: 1, Stat: api.Stat{Muid: s}} }},
	}
}

func TestTexts(t *testing.T) {
	for _, p := range textPlaces() {
		for _, s := range textsInQuotes() {
			line := p.front + s[1] + p.back
			if got := msg.Text(p.of(s[0])); got != line {
				t.Errorf("Text with %q: %q, want %q", s[0], got, line)
			}
			wantParsed(t, line, p.of(s[0]))
		}
	}
}

// Each character that stands for itself, or has its sign, is written so and read so.
func TestEachByteOfTexts(t *testing.T) {
	for n := 1; n < 0x80; n++ {
		s := string(rune(n))
		m := api.Msg{Kind: api.Rerror, Ename: s}
		line := "Rerror 0 ename=" + inQuotes(s)
		wantEncoded(t, m, encode(m), line)
		wantParsed(t, line, m)
		for _, other := range []string{`\` + s, s, strings.ToUpper(inQuotes(s)[1 : len(inQuotes(s))-1])} {
			wantParsedAsModel(t, `Rerror 0 ename="`+other+`"`)
		}
	}
	wantWrongAt(t, "Rerror 0 ename=", 15)
	const hex = "0123456789abcdefABCDEF"
	for _, a := range hex {
		for _, b := range hex {
			wantParsedAsModel(t, `Rerror 0 ename="`+`\x`+string(a)+string(b)+`"`)
		}
	}
}

// A text that is not written as Text writes one is wrong where it begins.
func TestTextsInAnotherForm(t *testing.T) {
	for _, p := range textPlaces() {
		for _, wrong := range []string{
			`,`, `a`, `a"`, `'a'`, ` ""`, `\"a"`, "“a”", `x""`,
			`"\a"`, `"\n"`, `"\'"`, `"\ "`, `"\é"`, `"\0"`, `"\u0041"`, `"\X0a"`,
			`"\x41"`, `"\x20"`, `"\x22"`, `"\x5c"`, `"\x7e"`, `"\x80"`, `"\xff"`, `"\x0A"`, `"\x7F"`, `"\x1F"`, `"\x00"`, `"a\x00b"`,
			`"\x"`, `"\x1"`, `"\x1 "`, `"\x1g"`, `"\xg1"`, `"\x0"`, `"\x0é"`, `"\x0\x0a"`, `"\x\x0a"`, `"\x+1"`, `"\x-1"`, `"\x 1"`, `"\x_1"`, `"\x0x"`,
			"\"\x00\"", "\"\x01\"", "\"\n\"", "\"\x1f\"", "\"\x7f\"", "\"a\tb\"",
			"\"\xff\"", "\"\x80\"", "\"\xc3\"", "\"\xed\xa0\x80\"", "\"\xc0\x80\"", "\"\xf4\x90\x80\x80\"", "\"\xef\xbf\"", "\"\\\xff\"",
		} {
			wantWrongAt(t, p.front+wrong+p.back, len(p.front))
		}
	}
}

// A text that does not end is wrong where it begins.
func TestTextsWithoutEnd(t *testing.T) {
	for _, p := range textPlaces() {
		for _, wrong := range []string{`"`, `"a`, `"\"`, `"\\\"`, `"a\`, `"\x0`, `"\"\"`, `"a\"b`, "\"\xff", `"` + strings.Repeat(`\"`, 1000)} {
			wantWrongAt(t, p.front+wrong, len(p.front))
		}
	}
}

// A text ends at the first quote that has no sign of its own in front.
func TestTextEnds(t *testing.T) {
	for _, p := range textPlaces() {
		for _, s := range textsInQuotes() {
			for _, tail := range []string{`"`, `\"`, `x`, `\`, "\xff", `""`} {
				wantWrongAt(t, p.front+s[1]+tail+p.back, len(p.front)+len(s[1]))
			}
		}
	}
}

func TestData(t *testing.T) {
	all := make([]byte, 256)
	for i := range all {
		all[i] = byte(i)
	}
	digits := ""
	for _, a := range "0123456789abcdef" {
		for _, b := range "0123456789abcdef" {
			digits += string(a) + string(b)
		}
	}
	for front, m := range map[string]api.Msg{"Rread 1 data=": {Kind: api.Rread, Tag: 1}, "Twrite 1 fid=2 offset=3 data=": {Kind: api.Twrite, Tag: 1, Fid: 2, Offset: 3}} {
		for _, n := range []int{0, 1, 2, 255, 256} {
			m.Data = all[:n]
			wantEncoded(t, m, encode(m), front+digits[:2*n])
			wantParsed(t, front+digits[:2*n], m)
		}
		for _, odd := range []string{"0", "a", "abc", "00f", digits[:511], "0 ", "a0bG", "123]"} {
			wantWrongAt(t, front+odd, len(front))
		}
		// The row of digits ends where something else stands: there the line should have ended.
		for row, tails := range map[string][]string{"": {"A0", "G", " 00", "xx", "\xff\xff", "é", "[]", `"00"`}, "00": {"A", "F0", "g", " ", " 00", "é", "\x00", "\n"}, "a0bf": {"G", ".", "="}} {
			for _, tail := range tails {
				wantWrongAt(t, front+row+tail, len(front)+len(row))
			}
		}
	}
}

// lists are lists of such a thing, as they may be and not, and the place of the part that is wrong; -1, if none is.
func lists(thing string) []struct {
	list string
	at   int
} {
	n := len(thing)
	row := func(n int) string { return strings.TrimSuffix(strings.Repeat(thing+" ", n), " ") }
	return []struct {
		list string
		at   int
	}{
		{"[]", -1}, {"[" + thing + "]", -1}, {"[" + row(2) + "]", -1}, {"[" + row(15) + "]", -1}, {"[" + row(16) + "]", -1},
		{"", 0}, {"]", 0}, {"(" + thing + ")", 0}, {thing, 0}, {" []", 0},
		{"[", 1}, {"[ ]", 1}, {"[ " + thing + "]", 1}, {"[[]]", 1}, {"[,", 1}, {"[}", 1},
		{"[" + thing, 1 + n}, {"[" + thing + "}", 1 + n}, {"[" + thing + "," + thing + "]", 1 + n}, {"[" + thing + "\t" + thing + "]", 1 + n},
		{"[" + thing + " ", 2 + n}, {"[" + thing + " ]", 2 + n}, {"[" + thing + "  " + thing + "]", 2 + n}, {"[" + row(2) + " ]", 3 + 2*n}, {"[" + row(2), 2 + 2*n},
		{"[" + row(16), 16 * (n + 1)}, {"[" + row(16) + " ", 16 * (n + 1)}, {"[" + row(16) + " ]", 16 * (n + 1)}, {"[" + row(17) + "]", 16 * (n + 1)}, {"[" + row(17), 16 * (n + 1)},
		{"[" + row(16) + "x", 16 * (n + 1)}, {"[" + row(15) + " ", 15*(n+1) + 1}, {"[" + row(15) + " ]", 15*(n+1) + 1},
		{"[]]", 2}, {"[] ", 2}, {"[" + thing + "] ", 2 + n}, {"[" + row(16) + "]]", 16*(n+1) + 1},
	}
}

func TestLists(t *testing.T) {
	for front, thing := range map[string]string{"Twalk 1 fid=2 newfid=3 names=": `"né"`, "Rwalk 1 qids=": "128.20.300"} {
		for _, l := range lists(thing) {
			if l.at >= 0 {
				wantWrongAt(t, front+l.list, len(front)+l.at)
				continue
			}
			wantParsedAsModel(t, front+l.list)
			m, _, e := msg.Parse(front + l.list)
			if e != api.OK || len(m.Names)+len(m.Qids) != strings.Count(l.list, thing) || msg.Text(m) != front+l.list {
				t.Errorf("Parse(%q): %s, %d", front+l.list, short(m), e)
			}
		}
	}
	// A text or a qid that is not as it must be is wrong where it begins itself.
	wantWrongAt(t, `Twalk 1 fid=2 newfid=3 names=["a" "\x41"]`, 34)
	wantWrongAt(t, `Twalk 1 fid=2 newfid=3 names=["a" "b]`, 34)
	wantWrongAt(t, `Twalk 1 fid=2 newfid=3 names=["a" 1.2.3]`, 34)
	wantWrongAt(t, "Rwalk 1 qids=[1.2.3 1.2]", 23)
	wantWrongAt(t, "Rwalk 1 qids=[1.2.3 1.2.]", 24)
	wantWrongAt(t, "Rwalk 1 qids=[1.2.3 256.2.3]", 20)
	wantWrongAt(t, "Rwalk 1 qids=[1 2.3]", 15)
	wantWrongAt(t, `Rwalk 1 qids=["a"]`, 14)
}

// The kind's name is the longest row of letters; it is wrong where it begins.
func TestKindsOfLines(t *testing.T) {
	for _, line := range []string{"", " ", "1", "Terror", "Terror 1", "terror 1", "tclunk 1 fid=1", "TCLUNK 1 fid=1", "Tclun 1 fid=1", "Tclunks 1 fid=1", "Tclunkk", " Tclunk 1 fid=1", "\xffTclunk 1 fid=1",
		"ééé 1", "TRflush 1", "RflushRflush 1", "T", "R 1", "Rflushz", "RflushZ 1", "Rflusha", "RflushA 1"} {
		wantWrongAt(t, line, 0)
	}
	// Behind the name the blank is the next part.
	for _, tail := range []string{"", "1", "\t1", "_ 1", "\x00", "é", "\xff", "=", "[1", "@ 1", "`1", "{1"} {
		wantWrongAt(t, "Rflush"+tail, 6)
	}
	for _, tail := range []string{"", " 1", "x", "fid=1", "=1"} {
		wantWrongAt(t, "Rflush "+tail, 7)
	}
}

// The words, each as a part together with its blank and its sign.
func TestWords(t *testing.T) {
	for _, line := range []string{"Tclunk 7", "Tclunk 7 ", "Tclunk 7 f", "Tclunk 7 fid", "Tclunk 7 fid:1", "Tclunk 7 fid =1", "Tclunk 7 Fid=1", "Tclunk 7  fid=1", "Tclunk 7\tfid=1", "Tclunk 7 newfid=1", "Tclunk 7fid=1", "Tclunk 7 afid=1"} {
		wantWrongAt(t, line, 8)
	}
	for _, line := range []string{"Twalk 3 fid=1", "Twalk 3 fid=1 ", "Twalk 3 fid=1 names=[] newfid=2", "Twalk 3 fid=1 fid=2", "Twalk 3 fid=1,newfid=2"} {
		wantWrongAt(t, line, 13)
	}
	for _, line := range []string{"Tclunk 7 fid=1 ", "Tclunk 7 fid=1\n", "Tclunk 7 fid=1 mode=2", "Tclunk 7 fid=1\x00", "Tclunk 7 fid=1Tclunk 7 fid=1", "Tclunk 7 fid=1]"} {
		wantWrongAt(t, line, 14)
	}
	for _, line := range []string{"Rflush 7 ", "Rflush 7 oldtag=1", "Rflush 7\n", "Rflush 7="} {
		wantWrongAt(t, line, 8)
	}
	record := `{type=0 dev=0 qid=0.0.0 mode=0 atime=0 mtime=0 length=0 name="" uid="" gid="" muid=""}`
	wantWrongAt(t, "Rstat 1"+record, 7)
	wantWrongAt(t, "Rstat 1 stat="+record[1:], 13)
	wantWrongAt(t, "Rstat 1 stat={}", 13)
	wantWrongAt(t, "Rstat 1 stat={ "+record[1:], 13)
	wantWrongAt(t, "Rstat 1 stat={dev=0 type=0"+record[14:], 13)
	wantWrongAt(t, "Rstat 1 stat="+record[:7]+"  dev=0"+record[13:], 20)
	wantWrongAt(t, "Rstat 1 stat="+record[:len(record)-1], 12+len(record))
	wantWrongAt(t, "Rstat 1 stat="+record[:len(record)-1]+" }", 12+len(record))
	wantWrongAt(t, "Rstat 1 stat="+record+"}", 13+len(record))
	wantWrongAt(t, "Twstat 1 stat="+record, 8)
}

// Every line of the named messages, cut anywhere, and with each byte gone, doubled or put to another.
func TestLinesEachByte(t *testing.T) {
	rnd := rand.New(rand.NewSource(4))
	signs := []string{"0", "1", "9", "a", "f", "x", "T", "Z", ` `, `"`, `\`, `\x`, `\x0`, "[", "]", "{", "}", ".", "=", "\n", "\x00", "\x7f", "\xff", "é"}
	for _, r := range chapterKinds() {
		_, _, line := named(r)
		for i := range line {
			wantParsedAsModel(t, line[:i])
			wantParsedAsModel(t, line[i:])
			wantParsedAsModel(t, line[:i]+line[i+1:])
			wantParsedAsModel(t, line[:i]+line[i:i+1]+line[i:])
			for range 8 {
				s := signs[rnd.Intn(len(signs))]
				wantParsedAsModel(t, line[:i]+s+line[i:])
				wantParsedAsModel(t, line[:i]+s+line[i+1:])
			}
		}
	}
}

func TestLinesMixed(t *testing.T) {
	rnd := rand.New(rand.NewSource(5))
	for _, m := range someMsgs(rnd, 60) {
		line := text(m)
		wantParsed(t, line, clean(m))
		b := []byte(line)
		for range 1 + rnd.Intn(2) {
			at := rnd.Intn(len(b))
			if rnd.Intn(2) == 0 {
				b[at] = line[rnd.Intn(len(line))]
			} else {
				b = slices.Insert(b, at, line[rnd.Intn(len(line))])
			}
		}
		wantParsedAsModel(t, string(b))
	}
}

// What Encode refuses of a line whose parts are all as they must be: the error, and how many bytes the line has.
func TestParseTooLong(t *testing.T) {
	for _, m := range []api.Msg{
		{Kind: api.Rread, Data: make([]byte, 65526)},
		{Kind: api.Rerror, Ename: strings.Repeat("\x01", 65528)},
		{Kind: api.Rerror, Ename: strings.Repeat("a", 200000)},
		{Kind: api.Twalk, Names: slices.Repeat([]string{strings.Repeat("\"", 5000)}, 16)},
	} {
		line := text(m)
		if got, at, e := msg.Parse(line); e != api.ErrMsgSize || at != len(line) || !same(got, api.Msg{}) {
			t.Errorf("Parse of a line of %d bytes: %s, %d, %d", len(line), short(got), at, e)
		}
		// A part that is not as it must be counts first.
		wantWrongAt(t, line+" ", len(line))
	}
}

// Text of what Encode refuses is empty.
func TestTextRefused(t *testing.T) {
	for _, m := range mayNotBe() {
		if s := msg.Text(m); s != "" {
			t.Errorf("Text of kind %d: %.80q", m.Kind, s)
		}
	}
}
