package msg_test

import (
	"bytes"
	"encoding/binary"
	"encoding/hex"
	"fmt"
	"math/rand"
	"reflect"
	"regexp"
	"strconv"
	"strings"
	"testing"
	"unicode/utf8"

	"verger/api"
	"verger/msg"
)

// The model: what the chapter says, in the plainest way, to hold the package against.

// chapter is the chapter's table: a kind, its name, the fields that it uses, in order.
const chapter = `100 Tversion Msize Version
101 Rversion Msize Version
102 Tauth Afid Uname Aname
103 Rauth Qid
104 Tattach Fid Afid Uname Aname
105 Rattach Qid
107 Rerror Ename
108 Tflush Oldtag
109 Rflush
110 Twalk Fid Newfid Names
111 Rwalk Qids
112 Topen Fid Mode
113 Ropen Qid Iounit
114 Tcreate Fid Name Perm Mode
115 Rcreate Qid Iounit
116 Tread Fid Offset Count
117 Rread Data
118 Twrite Fid Offset Data
119 Rwrite Count
120 Tclunk Fid
121 Rclunk
122 Tremove Fid
123 Rremove
124 Tstat Fid
125 Rstat Stat
126 Twstat Fid Stat
127 Rwstat`

type kindRow struct {
	kind api.Kind
	name string
	uses []string
}

func chapterKinds() []kindRow {
	var l []kindRow
	for line := range strings.Lines(chapter) {
		words := strings.Fields(line)
		n, _ := strconv.Atoi(words[0])
		l = append(l, kindRow{api.Kind(n), words[1], words[2:]})
	}
	return l
}

func rowOf(kind api.Kind) (kindRow, bool) {
	for _, r := range chapterKinds() {
		if r.kind == kind {
			return r, true
		}
	}
	return kindRow{}, false
}

func good(s string) bool { return utf8.ValidString(s) && !strings.Contains(s, "\x00") }

// slot is where a field lies in a message.
func slot(m *api.Msg, field string) reflect.Value {
	return reflect.ValueOf(m).Elem().FieldByName(field)
}

func value(m api.Msg, field string) any { return slot(&m, field).Interface() }

// refused is by what Encode refuses a message, or OK.
func refused(m api.Msg) api.Errno {
	row, known := rowOf(m.Kind)
	if !known {
		return api.ErrMsgKind
	}
	body := 0
	for _, f := range row.uses {
		v := value(m, f)
		if !allowed(v) {
			return api.ErrMsgArg
		}
		body += sizeOf(v)
	}
	if 7+body > 65536 {
		return api.ErrMsgSize
	}
	return api.OK
}

func allowed(v any) bool {
	switch x := v.(type) {
	case string:
		return good(x)
	case []string:
		return len(x) <= 16 && eachGood(x)
	case []api.Qid:
		return len(x) <= 16
	case api.Stat:
		return eachGood([]string{x.Name, x.Uid, x.Gid, x.Muid})
	}
	return true
}

func eachGood(l []string) bool {
	for _, s := range l {
		if !good(s) {
			return false
		}
	}
	return true
}

func sizeOf(v any) int {
	switch x := v.(type) {
	case uint8:
		return 1
	case uint16:
		return 2
	case uint32:
		return 4
	case uint64:
		return 8
	case string:
		return 2 + len(x)
	case []string:
		return 2 + 2*len(x) + len(strings.Join(x, ""))
	case api.Qid:
		return 13
	case []api.Qid:
		return 2 + 13*len(x)
	case []byte:
		return 4 + len(x)
	case api.Stat:
		return 2 + 49 + len(x.Name+x.Uid+x.Gid+x.Muid)
	}
	panic("no such field")
}

// encode is the frame of a message that may be.
func encode(m api.Msg) []byte {
	row, _ := rowOf(m.Kind)
	var body []byte
	for _, f := range row.uses {
		body = append(body, valueBytes(value(m, f))...)
	}
	return framed(m.Kind, m.Tag, string(body))
}

// framed is a frame with this body, whatever it is.
func framed(kind api.Kind, tag uint16, body string) []byte {
	b := binary.LittleEndian.AppendUint32(nil, uint32(7+len(body)))
	b = binary.LittleEndian.AppendUint16(append(b, byte(kind)), tag)
	return append(b, body...)
}

func valueBytes(v any) []byte {
	le := binary.LittleEndian
	switch x := v.(type) {
	case string:
		return append(le.AppendUint16(nil, uint16(len(x))), x...)
	case []string:
		b := le.AppendUint16(nil, uint16(len(x)))
		for _, s := range x {
			b = append(b, valueBytes(s)...)
		}
		return b
	case []api.Qid:
		b := le.AppendUint16(nil, uint16(len(x)))
		for _, q := range x {
			b = append(b, valueBytes(q)...)
		}
		return b
	case []byte:
		return append(le.AppendUint32(nil, uint32(len(x))), x...)
	case api.Stat:
		b := recordBytes(x)
		return append(le.AppendUint16(nil, uint16(len(b))), b...)
	}
	b, _ := binary.Append(nil, le, v)
	return b
}

func recordBytes(s api.Stat) []byte {
	var b []byte
	for _, v := range []any{s.Type, s.Dev, s.Qid, s.Mode, s.Atime, s.Mtime, s.Length, s.Name, s.Uid, s.Gid, s.Muid} {
		b = append(b, valueBytes(v)...)
	}
	return append(binary.LittleEndian.AppendUint16(nil, uint16(len(b))), b...)
}

// cursor reads bytes from the front, till something is wrong.
type cursor struct {
	b     []byte
	wrong bool
}

func (c *cursor) take(n uint64) []byte {
	if c.wrong || n > uint64(len(c.b)) {
		c.wrong = true
		return make([]byte, 8)
	}
	b := c.b[:n:n]
	c.b = c.b[n:]
	return b
}

func (c *cursor) number(width uint64) uint64 {
	var eight [8]byte
	copy(eight[:], c.take(width))
	return binary.LittleEndian.Uint64(eight[:])
}

func (c *cursor) text() string {
	s := string(c.take(c.number(2)))
	if !c.wrong && !good(s) {
		c.wrong = true
	}
	return s
}

func (c *cursor) qid() api.Qid {
	return api.Qid{Kind: uint8(c.number(1)), Vers: uint32(c.number(4)), Path: c.number(8)}
}

func (c *cursor) record() api.Stat {
	for range 2 {
		n := c.number(2)
		c.wrong = c.wrong || n != uint64(len(c.b))
	}
	return api.Stat{Type: uint16(c.number(2)), Dev: uint32(c.number(4)), Qid: c.qid(), Mode: uint32(c.number(4)), Atime: uint32(c.number(4)),
		Mtime: uint32(c.number(4)), Length: c.number(8), Name: c.text(), Uid: c.text(), Gid: c.text(), Muid: c.text()}
}

func (c *cursor) field(of any) any {
	switch of.(type) {
	case uint8, uint16, uint32, uint64:
		t := reflect.TypeOf(of)
		return reflect.ValueOf(c.number(uint64(t.Size()))).Convert(t).Interface()
	case string:
		return c.text()
	case []byte:
		return c.take(c.number(4))
	case api.Qid:
		return c.qid()
	case api.Stat:
		return c.record()
	}
	n := c.number(2)
	c.wrong = c.wrong || n > 16
	var names []string
	var qids []api.Qid
	for range min(n, 16) {
		if _, ok := of.([]string); ok {
			names = append(names, c.text())
		} else {
			qids = append(qids, c.qid())
		}
	}
	if _, ok := of.([]string); ok {
		return names
	}
	return qids
}

func decode(frame []byte) (api.Msg, api.Errno) {
	if len(frame) < 7 || len(frame) > 65536 || int(binary.LittleEndian.Uint32(frame)) != len(frame) {
		return api.Msg{}, api.ErrMsgSize
	}
	head := api.Msg{Kind: api.Kind(frame[4]), Tag: binary.LittleEndian.Uint16(frame[5:])}
	row, known := rowOf(head.Kind)
	if !known {
		return head, api.ErrMsgKind
	}
	m, c := head, &cursor{b: frame[7:]}
	for _, f := range row.uses {
		slot(&m, f).Set(reflect.ValueOf(c.field(value(m, f))))
	}
	if c.wrong || len(c.b) > 0 {
		return head, api.ErrMsgBody
	}
	return m, api.OK
}

// clean is m with only the fields that its kind uses.
func clean(m api.Msg) api.Msg {
	row, _ := rowOf(m.Kind)
	c := api.Msg{Kind: m.Kind, Tag: m.Tag}
	for _, f := range row.uses {
		slot(&c, f).Set(slot(&m, f))
	}
	return c
}

// text is the line of a message that may be.
func text(m api.Msg) string {
	row, _ := rowOf(m.Kind)
	line := fmt.Sprintf("%s %d", row.name, m.Tag)
	for _, f := range row.uses {
		line += " " + strings.ToLower(f) + "=" + valueText(value(m, f))
	}
	return line
}

func valueText(v any) string {
	switch x := v.(type) {
	case string:
		return inQuotes(x)
	case []string:
		return listText(x)
	case []api.Qid:
		return listText(x)
	case api.Qid:
		return fmt.Sprintf("%d.%d.%d", x.Kind, x.Vers, x.Path)
	case []byte:
		return fmt.Sprintf("%x", x)
	case api.Stat:
		return fmt.Sprintf("{type=%d dev=%d qid=%s mode=%d atime=%d mtime=%d length=%d name=%s uid=%s gid=%s muid=%s}",
			x.Type, x.Dev, valueText(x.Qid), x.Mode, x.Atime, x.Mtime, x.Length, inQuotes(x.Name), inQuotes(x.Uid), inQuotes(x.Gid), inQuotes(x.Muid))
	}
	return fmt.Sprint(v)
}

func listText[V any](l []V) string {
	var texts []string
	for _, v := range l {
		texts = append(texts, valueText(v))
	}
	return "[" + strings.Join(texts, " ") + "]"
}

func inQuotes(s string) string {
	var b []byte
	for i := range len(s) {
		switch c := s[i]; {
		case c == '"' || c == '\\':
			b = append(b, '\\', c)
		case c < 0x20 || c == 0x7f:
			b = fmt.Appendf(b, "\\x%02x", c)
		default:
			b = append(b, c)
		}
	}
	return `"` + string(b) + `"`
}

// lineCursor reads a line from the left; at the first part that is not as it must be it stays.
type lineCursor struct {
	rest  string
	at    int
	wrong bool
}

// part reads what an expression finds at the front, if that is as it must be.
func (c *lineCursor) part(expression *regexp.Regexp, must func(string) bool) string {
	found := expression.FindString(c.rest)
	if c.wrong || !must(found) {
		c.wrong = true
		return ""
	}
	c.rest, c.at = c.rest[len(found):], c.at+len(found)
	return found
}

func (c *lineCursor) word(w string) {
	if c.wrong || !strings.HasPrefix(c.rest, w) {
		c.wrong = true
		return
	}
	c.rest, c.at = c.rest[len(w):], c.at+len(w)
}

var (
	letters = regexp.MustCompile(`^[A-Za-z]*`)
	digits  = regexp.MustCompile(`^[0-9]*`)
	hexes   = regexp.MustCompile(`^[0-9a-f]*`)
	quotes  = regexp.MustCompile(`^"(?:[^"\\\x00-\x1f\x7f]|\\["\\]|\\x0[1-9a-f]|\\x1[0-9a-f]|\\x7f)*"`)
	escapes = regexp.MustCompile(`\\(?:x[0-9a-f][0-9a-f]|.)`)
)

func (c *lineCursor) number(bits int) uint64 {
	var n uint64
	c.part(digits, func(s string) bool {
		var err error
		n, err = strconv.ParseUint(s, 10, bits)
		return err == nil && (s == "0" || s[0] != '0')
	})
	return n
}

func (c *lineCursor) text() string {
	s := c.part(quotes, func(s string) bool { return len(s) >= 2 && good(s) })
	if c.wrong {
		return ""
	}
	return escapes.ReplaceAllStringFunc(s[1:len(s)-1], func(e string) string {
		if n, err := strconv.ParseUint(e[2:], 16, 8); err == nil {
			return string(rune(n))
		}
		return e[1:]
	})
}

func (c *lineCursor) qid() api.Qid {
	var q api.Qid
	q.Kind = uint8(c.number(8))
	c.word(".")
	q.Vers = uint32(c.number(32))
	c.word(".")
	q.Path = c.number(64)
	return q
}

func (c *lineCursor) record() api.Stat {
	var s api.Stat
	v := reflect.ValueOf(&s).Elem()
	for i := range v.NumField() {
		ahead := " "
		if i == 0 {
			ahead = "{"
		}
		c.word(ahead + strings.ToLower(v.Type().Field(i).Name) + "=")
		v.Field(i).Set(reflect.ValueOf(c.value(v.Field(i).Interface())))
	}
	c.word("}")
	return s
}

func (c *lineCursor) value(of any) any {
	switch of.(type) {
	case string:
		return c.text()
	case []string:
		return lineList(c, c.text)
	case []api.Qid:
		return lineList(c, c.qid)
	case api.Qid:
		return c.qid()
	case api.Stat:
		return c.record()
	case []byte:
		b, _ := hex.DecodeString(c.part(hexes, func(s string) bool { return len(s)%2 == 0 }))
		return b
	}
	t := reflect.TypeOf(of)
	return reflect.ValueOf(c.number(t.Bits())).Convert(t).Interface()
}

func lineList[V any](c *lineCursor, one func() V) []V {
	var l []V
	c.word("[")
	for !c.wrong && !strings.HasPrefix(c.rest, "]") {
		if len(l) == 16 {
			c.wrong = true
		} else if len(l) > 0 {
			c.word(" ")
		}
		if !c.wrong {
			l = append(l, one())
		}
	}
	c.word("]")
	return l
}

func parse(line string) (api.Msg, int, api.Errno) {
	var m api.Msg
	c := &lineCursor{rest: line}
	c.part(letters, func(s string) bool {
		for _, r := range chapterKinds() {
			if r.name == s {
				m.Kind = r.kind
				return true
			}
		}
		return false
	})
	c.word(" ")
	m.Tag = uint16(c.number(16))
	row, _ := rowOf(m.Kind)
	for _, f := range row.uses {
		c.word(" " + strings.ToLower(f) + "=")
		slot(&m, f).Set(reflect.ValueOf(c.value(value(m, f))))
	}
	if c.wrong || c.rest != "" {
		return api.Msg{}, c.at, api.ErrMsgText
	}
	if e := refused(m); e != api.OK {
		return api.Msg{}, len(line), e
	}
	return m, 0, api.OK
}

// Helpers of all tests.

// same tells whether two messages are the same; a list that has nothing in it may be nil or not.
func same(a, b api.Msg) bool { return reflect.DeepEqual(bare(a), bare(b)) }

func bare(m api.Msg) api.Msg {
	for _, f := range []string{"Names", "Qids", "Data"} {
		if v := slot(&m, f); v.Len() == 0 {
			v.SetZero()
		}
	}
	return m
}

// short is a message as a failing test shows it.
func short(m api.Msg) string {
	s := fmt.Sprintf("%+v", m)
	return s[:min(len(s), 600)]
}

// wantEncoded says what Encode, Size and Text tell of a message.
func wantEncoded(t *testing.T, m api.Msg, frame []byte, line string) {
	t.Helper()
	b, e := msg.Encode(m)
	if e != api.OK || !bytes.Equal(b, frame) {
		t.Errorf("Encode(%s): %.80x, %d; want %.80x", short(m), b, e, frame)
	}
	if n := msg.Size(m); n != len(frame) {
		t.Errorf("Size(%s): %d, want %d", short(m), n, len(frame))
	}
	if s := msg.Text(m); s != line {
		t.Errorf("Text(%s): %.200s, want %.200s", short(m), s, line)
	}
}

// wantRefused says by what Encode refuses a message.
func wantRefused(t *testing.T, m api.Msg, want api.Errno) {
	t.Helper()
	b, e := msg.Encode(m)
	if e != want || len(b) != 0 {
		t.Errorf("Encode(%s): %d bytes, %d; want error %d", short(m), len(b), e, want)
	}
	if n, s := msg.Size(m), msg.Text(m); n != 0 || s != "" {
		t.Errorf("Size, Text of what Encode refuses: %d, %.80q", n, s)
	}
}

// wantDecoded says what Decode tells of a frame; also of one that it refuses.
func wantDecoded(t *testing.T, frame []byte, want api.Msg, wantErr api.Errno) {
	t.Helper()
	if m, e := msg.Decode(frame); e != wantErr || !same(m, want) {
		t.Errorf("Decode(%.80x): %s, %d; want %s, %d", frame, short(m), e, short(want), wantErr)
	}
}

func wantDecodedAsModel(t *testing.T, frame []byte) {
	t.Helper()
	want, e := decode(frame)
	wantDecoded(t, frame, want, e)
}

// wantParsed says which message a line is.
func wantParsed(t *testing.T, line string, want api.Msg) {
	t.Helper()
	if m, at, e := msg.Parse(line); e != api.OK || at != 0 || !same(m, want) {
		t.Errorf("Parse(%.200q): %s, %d, %d; want %s", line, short(m), at, e, short(want))
	}
}

// wantWrongAt says at which part a line goes wrong.
func wantWrongAt(t *testing.T, line string, want int) {
	t.Helper()
	if m, at, e := msg.Parse(line); e != api.ErrMsgText || at != want || !same(m, api.Msg{}) {
		t.Errorf("Parse(%.200q): %s, at %d, %d; want ErrMsgText at %d", line, short(m), at, e, want)
	}
}

func wantParsedAsModel(t *testing.T, line string) {
	t.Helper()
	want, wantAt, wantErr := parse(line)
	if m, at, e := msg.Parse(line); e != wantErr || at != wantAt || !same(m, want) {
		t.Errorf("Parse(%.200q): %s, at %d, %d; want %s, at %d, %d", line, short(m), at, e, short(want), wantAt, wantErr)
	}
}

func someText(rnd *rand.Rand) string {
	from := []string{"a", "glenda", "é", "€", "😀", "\ufffd", "\u0080", " ", "/", "\x01", "\n", "\x1f", "\x7f", `"`, `\`, `\x`, "x41", "[", "]", "="}
	var b strings.Builder
	for range rnd.Intn(5) {
		b.WriteString(from[rnd.Intn(len(from))])
	}
	return b.String()
}

func fill(rnd *rand.Rand, v reflect.Value) {
	switch v.Kind() {
	case reflect.String:
		v.SetString(someText(rnd))
	case reflect.Slice:
		n := rnd.Intn(5)
		if rnd.Intn(8) == 0 {
			n = 16
		}
		v.Set(reflect.MakeSlice(v.Type(), n, n+rnd.Intn(3)))
		for i := range n {
			fill(rnd, v.Index(i))
		}
	case reflect.Struct:
		for i := range v.NumField() {
			fill(rnd, v.Field(i))
		}
	default:
		n := rnd.Uint64() >> rnd.Intn(64)
		switch rnd.Intn(4) {
		case 0:
			n = 0
		case 1:
			n = ^uint64(0)
		}
		v.SetUint(n & (^uint64(0) >> (64 - v.Type().Bits())))
	}
}

// someMsg is a message of a kind that may be; all fields have something in them.
func someMsg(rnd *rand.Rand, kind api.Kind) api.Msg {
	var m api.Msg
	fill(rnd, reflect.ValueOf(&m).Elem())
	m.Kind = kind
	return m
}

// someMsgs are some of each kind.
func someMsgs(rnd *rand.Rand, each int) []api.Msg {
	var l []api.Msg
	for _, r := range chapterKinds() {
		for range each {
			l = append(l, someMsg(rnd, r.kind))
		}
	}
	return l
}
