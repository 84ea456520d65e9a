package wire_test

import (
	"encoding/binary"
	"math/rand"
	"strings"
	"testing"

	"verger/api"
	"verger/wire"
)

// The model: what the chapter says, in the plainest way, to hold the package against.

// span is both ends of what a byte may be.
type span struct{ from, to byte }

// forms are the chapter's forms of a character, row by row.
func forms() [][]span {
	tail := span{0x80, 0xbf}
	return [][]span{
		{{0x00, 0x7f}},
		{{0xc2, 0xdf}, tail},
		{{0xe0, 0xe0}, {0xa0, 0xbf}, tail},
		{{0xe1, 0xec}, tail, tail},
		{{0xee, 0xee}, tail, tail},
		{{0xef, 0xef}, tail, tail},
		{{0xed, 0xed}, {0x80, 0x9f}, tail},
		{{0xf0, 0xf0}, {0x90, 0xbf}, tail, tail},
		{{0xf1, 0xf3}, tail, tail, tail},
		{{0xf4, 0xf4}, {0x80, 0x8f}, tail, tail},
	}
}

// charLen is how many bytes the character at the front of s has; 0, if none begins there.
func charLen(s string) int {
forms:
	for _, form := range forms() {
		if len(s) < len(form) {
			continue
		}
		for i, may := range form {
			if s[i] < may.from || s[i] > may.to {
				continue forms
			}
		}
		return len(form)
	}
	return 0
}

// firstBad is the place of the first piece that may not stand in a text; -1, if there is none.
func firstBad(s string) int {
	for i := 0; i < len(s); {
		n := charLen(s[i:])
		if n == 0 || s[i] == 0 {
			return i
		}
		i += n
	}
	return -1
}

func cut(s string, most int) string {
	end := 0
	for end < len(s) {
		n := max(1, charLen(s[end:]))
		if end+n > most {
			break
		}
		end += n
	}
	return s[:end]
}

type modelWriter struct {
	limit int
	out   []byte
	open  []int
	err   api.Errno
}

func (w *modelWriter) put(b []byte) bool {
	if w.err == api.OK && len(w.out)+len(b) > w.limit {
		w.err = api.ErrWireFull
	}
	if w.err != api.OK {
		return false
	}
	w.out = append(w.out, b...)
	return true
}

func (w *modelWriter) text(s string) {
	if w.err == api.OK && len(s) > 65535 {
		w.err = api.ErrWireLong
	}
	if w.err == api.OK && firstBad(s) >= 0 {
		w.err = api.ErrWireText
	}
	if w.err == api.OK {
		w.put(append(u16(len(s)), s...))
	}
}

func (w *modelWriter) begin() int {
	place := len(w.out)
	if !w.put(u16(0)) {
		return 0
	}
	w.open = append(w.open, place)
	return place
}

func (w *modelWriter) end(place int) {
	n := len(w.open)
	switch {
	case w.err != api.OK:
	case n == 0 || w.open[n-1] != place:
		w.err = api.ErrArg
	case len(w.out)-place-2 > 65535:
		w.err = api.ErrWireLong
	default:
		copy(w.out[place:], u16(len(w.out)-place-2))
		w.open = w.open[:n-1]
	}
}

func (w *modelWriter) done() ([]byte, api.Errno) {
	if w.err != api.OK {
		return nil, w.err
	}
	if len(w.open) > 0 {
		return nil, api.ErrArg
	}
	return w.out, api.OK
}

type modelReader struct {
	all  []byte
	from int // the place of the first byte
	pos  int // how many were read
	err  api.Errno
	bad  int
}

func (r *modelReader) at() int { return r.from + r.pos }

func (r *modelReader) left() int {
	if r.err != api.OK {
		return 0
	}
	return len(r.all) - r.pos
}

func (r *modelReader) fail(e api.Errno, place int) {
	if r.err == api.OK && e != api.OK {
		r.err, r.bad = e, place
	}
}

func (r *modelReader) raw(n int) []byte {
	switch {
	case n < 0:
		r.fail(api.ErrArg, r.at())
	case n > len(r.all)-r.pos:
		r.fail(api.ErrWireShort, r.at())
	}
	if r.err != api.OK {
		return nil
	}
	b := r.all[r.pos : r.pos+n]
	r.pos += n
	return b
}

func (r *modelReader) number(width int) uint64 {
	var eight [8]byte
	copy(eight[:], r.raw(width))
	return binary.LittleEndian.Uint64(eight[:])
}

// counted is the bytes behind a count of two bytes; nothing is read.
func (r *modelReader) counted() ([]byte, bool) {
	rest := r.all[r.pos:]
	if len(rest) < 2 || len(rest)-2 < int(binary.LittleEndian.Uint16(rest)) {
		r.fail(api.ErrWireShort, r.at())
	}
	if r.err != api.OK {
		return nil, false
	}
	return rest[2 : 2+binary.LittleEndian.Uint16(rest)], true
}

func (r *modelReader) text() string {
	b, ok := r.counted()
	if !ok {
		return ""
	}
	if i := firstBad(string(b)); i >= 0 {
		r.fail(api.ErrWireText, r.at()+2+i)
		return ""
	}
	r.pos += 2 + len(b)
	return string(b)
}

func (r *modelReader) part() *modelReader {
	b, ok := r.counted()
	if !ok {
		return &modelReader{from: r.bad, err: r.err, bad: r.bad}
	}
	p := &modelReader{all: b, from: r.at() + 2}
	r.pos += 2 + len(b)
	return p
}

func (r *modelReader) finish() {
	if r.pos < len(r.all) {
		r.fail(api.ErrWireMore, r.at())
	}
}

func u16(n int) []byte { return binary.LittleEndian.AppendUint16(nil, uint16(n)) }

// Helpers of all tests.

func newWriter(t *testing.T, limit int) *wire.Writer {
	t.Helper()
	w, e := wire.NewWriter(limit)
	if w == nil || e != api.OK {
		t.Fatalf("NewWriter(%d): %v, %d", limit, w, e)
	}
	return w
}

// wantWritten says that the writer is right, and what it has written.
func wantWritten(t *testing.T, w *wire.Writer, want string) {
	t.Helper()
	b, e := w.Done()
	if e != api.OK || string(b) != want || w.Len() != len(want) {
		t.Errorf("Done: %x, %d, Len %d; want %x", b, e, w.Len(), want)
	}
}

// wantWrong says by what a writer is wrong (or that a part of it is open), and how much it has written.
func wantWrong(t *testing.T, w *wire.Writer, want api.Errno, size int) {
	t.Helper()
	b, e := w.Done()
	if e != want || len(b) != 0 || w.Len() != size {
		t.Errorf("Done: %x, %d, Len %d; want error %d, Len %d", b, e, w.Len(), want, size)
	}
}

// wantRight says that the reader is right, and where it is.
func wantRight(t *testing.T, r *wire.Reader, at, left int) {
	t.Helper()
	if e, bad := r.Err(); e != api.OK || bad != 0 || r.At() != at || r.Left() != left {
		t.Errorf("right: Err %d, %d, At %d, Left %d; want At %d, Left %d", e, bad, r.At(), r.Left(), at, left)
	}
}

// wantFault says by what the reader is wrong, where that was found, and where it stands.
func wantFault(t *testing.T, r *wire.Reader, want api.Errno, bad, at int) {
	t.Helper()
	if e, b := r.Err(); e != want || b != bad || r.At() != at || r.Left() != 0 {
		t.Errorf("wrong: Err %d, %d, At %d, Left %d; want Err %d, %d, At %d, Left 0", e, b, r.At(), r.Left(), want, bad, at)
	}
}

// pieces are what texts of all sorts are put together from.
func pieces() []string {
	return []string{"a", "b", "\x7f", "é", "߿", "ࠀ", "€", "\ud7ff", "\ue000", "\ufffd", "\uffff", "\U00010000", "😀", "\U0010ffff",
		"\x00", "\x80", "\xbf", "\xc0\x80", "\xc1\xbf", "\xc3", "\xe0\x9f\xbf", "\xe2\x82", "\xed\xa0\x80", "\xed\xbf\xbf", "\xf0\x8f\xbf\xbf", "\xf0\x9f\x98", "\xf4\x90\x80\x80", "\xf5\x80\x80\x80", "\xff"}
}

// someText is up to five pieces; good ones alone, if asked for.
func someText(rnd *rand.Rand, good bool) string {
	from := pieces()
	if good {
		from = from[:14]
	}
	var b strings.Builder
	for range rnd.Intn(6) {
		b.WriteString(from[rnd.Intn(len(from))])
	}
	return b.String()
}

func someBytes(rnd *rand.Rand, most int) []byte {
	b := make([]byte, rnd.Intn(most+1))
	for i := range b {
		b[i] = byte(rnd.Intn(256))
	}
	return b
}
