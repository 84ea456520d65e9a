package stat_test

import (
	"encoding/binary"
	"math/rand"
	"reflect"
	"slices"
	"strings"
	"testing"
	"unicode/utf8"

	"verger/api"
	"verger/stat"
	"verger/wire"
)

// The model: what the chapter says, in the plainest way, to hold the package against.

func good(s string) bool { return utf8.ValidString(s) && !strings.Contains(s, "\x00") }

func texts(s api.Stat) []string { return []string{s.Name, s.Uid, s.Gid, s.Muid} }

// body is what stands behind the two bytes of the count, however long it is.
func body(s api.Stat) []byte {
	le := binary.LittleEndian
	b := le.AppendUint16(nil, s.Type)
	b = le.AppendUint32(b, s.Dev)
	b = append(b, qidBytes(s.Qid)...)
	b = le.AppendUint32(b, s.Mode)
	b = le.AppendUint32(b, s.Atime)
	b = le.AppendUint32(b, s.Mtime)
	b = le.AppendUint64(b, s.Length)
	for _, t := range texts(s) {
		b = le.AppendUint16(b, uint16(len(t)))
		b = append(b, t...)
	}
	return b
}

func qidBytes(q api.Qid) []byte {
	b := binary.LittleEndian.AppendUint32([]byte{q.Kind}, q.Vers)
	return binary.LittleEndian.AppendUint64(b, q.Path)
}

// encode is the record's bytes, or why it can't be written.
func encode(s api.Stat) ([]byte, api.Errno) {
	for _, t := range texts(s) {
		if len(t) > 65535 {
			return nil, api.ErrWireLong
		}
		if !good(t) {
			return nil, api.ErrWireText
		}
	}
	b := body(s)
	if len(b) > 65535 {
		return nil, api.ErrWireLong
	}
	return append(binary.LittleEndian.AppendUint16(nil, uint16(len(b))), b...), api.OK
}

// front is the record at the front of b, and how many bytes it has; 0, if none stands there.
func front(b []byte) (api.Stat, int) {
	le := binary.LittleEndian
	if len(b) < 2 || len(b)-2 < int(le.Uint16(b)) || le.Uint16(b) < 39 {
		return api.Stat{}, 0
	}
	size := 2 + int(le.Uint16(b))
	s := api.Stat{
		Type: le.Uint16(b[2:]), Dev: le.Uint32(b[4:]),
		Qid:  api.Qid{Kind: b[8], Vers: le.Uint32(b[9:]), Path: le.Uint64(b[13:])},
		Mode: le.Uint32(b[21:]), Atime: le.Uint32(b[25:]), Mtime: le.Uint32(b[29:]), Length: le.Uint64(b[33:]),
	}
	rest := b[41:size]
	for _, text := range []*string{&s.Name, &s.Uid, &s.Gid, &s.Muid} {
		if len(rest) < 2 || len(rest)-2 < int(le.Uint16(rest)) {
			return api.Stat{}, 0
		}
		n := int(le.Uint16(rest))
		*text, rest = string(rest[2:2+n]), rest[2+n:]
		if !good(*text) {
			return api.Stat{}, 0
		}
	}
	if len(rest) > 0 {
		return api.Stat{}, 0
	}
	return s, size
}

// placed is a record and its place.
type placed struct {
	at int
	s  api.Stat
}

// fall is how b falls into records, from the front; and whether nothing is left behind them.
func fall(b []byte) ([]placed, bool) {
	var l []placed
	at := 0
	for at < len(b) {
		s, n := front(b[at:])
		if n == 0 {
			return l, false
		}
		l = append(l, placed{at, s})
		at += n
	}
	return l, true
}

// flat is a record's thirteen fields, in order.
func flat(s api.Stat) []any {
	var l []any
	v := reflect.ValueOf(s)
	for i := range v.NumField() {
		if q, ok := v.Field(i).Interface().(api.Qid); ok {
			l = append(l, q.Kind, q.Vers, q.Path)
		} else {
			l = append(l, v.Field(i).Interface())
		}
	}
	return l
}

// slots are where the thirteen fields lie in a record, in order.
func slots(s *api.Stat) []reflect.Value {
	var l []reflect.Value
	v := reflect.ValueOf(s).Elem()
	for i := range v.NumField() {
		if f := v.Field(i); f.Kind() == reflect.Struct {
			l = append(l, f.Field(0), f.Field(1), f.Field(2))
		} else {
			l = append(l, f)
		}
	}
	return l
}

// Helpers of all tests.

// sample is the record of the chapter's first example, and its bytes.
func sample() (api.Stat, []byte) {
	s := api.Stat{Qid: api.Qid{Vers: 1, Path: 2}, Mode: 420, Atime: 5, Mtime: 6, Length: 3, Name: "a", Uid: "u", Gid: "g"}
	return s, []byte("\x32\x00" + "\x00\x00" + "\x00\x00\x00\x00" + "\x00\x01\x00\x00\x00\x02\x00\x00\x00\x00\x00\x00\x00" +
		"\xa4\x01\x00\x00" + "\x05\x00\x00\x00" + "\x06\x00\x00\x00" + "\x03\x00\x00\x00\x00\x00\x00\x00" + "\x01\x00a" + "\x01\x00u" + "\x01\x00g" + "\x00\x00")
}

// full is a record in which no byte is as another one.
func full() (api.Stat, []byte) {
	s := api.Stat{Type: 0x0201, Dev: 0x06050403, Qid: api.Qid{Kind: 0x07, Vers: 0x0b0a0908, Path: 0x131211100f0e0d0c},
		Mode: 0x17161514, Atime: 0x1b1a1918, Mtime: 0x1f1e1d1c, Length: 0x2726252423222120, Name: "name", Uid: "né", Gid: "€", Muid: "😀!"}
	b := []byte{0x3e, 0}
	for i := range 0x27 {
		b = append(b, byte(i+1))
	}
	return s, append(b, "\x04\x00name\x03\x00n\xc3\xa9\x03\x00\xe2\x82\xac\x05\x00\xf0\x9f\x98\x80!"...)
}

func joined(l ...[]byte) []byte { return slices.Concat(l...) }

func newWriter(t *testing.T, limit int) *wire.Writer {
	t.Helper()
	w, e := wire.NewWriter(limit)
	if w == nil || e != api.OK {
		t.Fatalf("NewWriter(%d): %v, %d", limit, w, e)
	}
	return w
}

// each is all that Each tells.
func each(b []byte) []placed {
	var l []placed
	for at, s := range stat.Each(b) {
		l = append(l, placed{at, s})
	}
	return l
}

// numbers are what a number of so many bits may be, its edges ahead of all.
func someNumber(rnd *rand.Rand, width int) uint64 {
	n := rnd.Uint64()
	switch rnd.Intn(4) {
	case 0:
		n = 0
	case 1:
		n = ^uint64(0)
	}
	return n >> (64 - width)
}

func someText(rnd *rand.Rand) string {
	from := []string{"a", "glenda", "é", "€", "😀", "\ufffd", " ", "/", "\x01", "\x7f"}
	var b strings.Builder
	for range rnd.Intn(4) {
		b.WriteString(from[rnd.Intn(len(from))])
	}
	return b.String()
}

// someStat is a record that can be written.
func someStat(rnd *rand.Rand) api.Stat {
	var s api.Stat
	for _, f := range slots(&s) {
		if f.Kind() == reflect.String {
			f.SetString(someText(rnd))
		} else {
			f.SetUint(someNumber(rnd, f.Type().Bits()))
		}
	}
	return s
}

func someStats(rnd *rand.Rand, most int) []api.Stat {
	var l []api.Stat
	for range rnd.Intn(most + 1) {
		l = append(l, someStat(rnd))
	}
	return l
}

// allBytes is the bytes of records that can be written.
func allBytes(l []api.Stat) []byte {
	var b []byte
	for _, s := range l {
		one, _ := encode(s)
		b = append(b, one...)
	}
	return b
}
