package wire_test

import (
	"math"
	"math/rand"
	"strings"
	"testing"

	"verger/api"
	"verger/wire"
)

func reader(s string) *wire.Reader { return wire.NewReader([]byte(s)) }

func TestNewReader(t *testing.T) {
	for _, b := range [][]byte{nil, {}, {1}, make([]byte, 100000)} {
		r := wire.NewReader(b)
		if r == nil {
			t.Fatal("NewReader: nil")
		}
		wantRight(t, r, 0, len(b))
	}
}

func TestReadNumbers(t *testing.T) {
	r := reader("\x00\xff" + "\x02\x01\xff\xff" + "\x04\x03\x02\x01\x00\x00\x00\x80" + "\x08\x07\x06\x05\x04\x03\x02\x01\xff\xff\xff\xff\xff\xff\xff\xff")
	if a, b := r.U8(), r.U8(); a != 0 || b != 0xff {
		t.Errorf("U8: %x, %x", a, b)
	}
	wantRight(t, r, 2, 28)
	if a, b := r.U16(), r.U16(); a != 0x0102 || b != 0xffff {
		t.Errorf("U16: %x, %x", a, b)
	}
	wantRight(t, r, 6, 24)
	if a, b := r.U32(), r.U32(); a != 0x01020304 || b != 0x80000000 {
		t.Errorf("U32: %x, %x", a, b)
	}
	wantRight(t, r, 14, 16)
	if a, b := r.U64(), r.U64(); a != 0x0102030405060708 || b != math.MaxUint64 {
		t.Errorf("U64: %x, %x", a, b)
	}
	wantRight(t, r, 30, 0)
	r.End()
	wantRight(t, r, 30, 0)
}

func TestReadBytesAndTexts(t *testing.T) {
	r := reader("\x00\xff\xc3" + "\x00\x00" + "\x03\x00é\x01" + "\x03\x00\xef\xbf\xbd" + "\x00\xff")
	if b := r.Raw(0); len(b) != 0 {
		t.Errorf("Raw(0): %x", b)
	}
	wantRight(t, r, 0, 17)
	if b := r.Raw(3); string(b) != "\x00\xff\xc3" {
		t.Errorf("Raw(3): %x", b)
	}
	for _, want := range []string{"", "é\x01", "\ufffd"} {
		if s := r.Text(); s != want {
			t.Errorf("Text: %q, want %q", s, want)
		}
	}
	wantRight(t, r, 15, 2)
	if b := r.Raw(2); string(b) != "\x00\xff" {
		t.Errorf("Raw(2): %x", b)
	}
	if b := r.Raw(0); len(b) != 0 {
		t.Errorf("Raw(0): %x", b)
	}
	wantRight(t, r, 17, 0)
	long := strings.Repeat("x", 65535)
	r = reader("\xff\xff" + long)
	if s := r.Text(); s != long {
		t.Errorf("Text: %d bytes", len(s))
	}
	wantRight(t, r, 65537, 0)
}

// ask is one call on a reader; it tells whether the call answered nothing.
type ask struct {
	name string
	size int
	do   func(*wire.Reader) bool
}

func asks() []ask {
	return []ask{
		{"U8", 1, func(r *wire.Reader) bool { return r.U8() == 0 }},
		{"U16", 2, func(r *wire.Reader) bool { return r.U16() == 0 }},
		{"U32", 4, func(r *wire.Reader) bool { return r.U32() == 0 }},
		{"U64", 8, func(r *wire.Reader) bool { return r.U64() == 0 }},
		{"Raw", 3, func(r *wire.Reader) bool { return len(r.Raw(3)) == 0 }},
		{"Text", 2 + 0x0101, func(r *wire.Reader) bool { return r.Text() == "" }},
		{"Part", 2 + 0x0101, func(r *wire.Reader) bool { p := r.Part(); return p != nil && p.Left() == 0 && p.U8() == 0 }},
	}
}

// Where too few bytes are left, nothing of them is read, and the error is found ahead of all that was to be read.
func TestReadShort(t *testing.T) {
	for _, a := range asks() {
		for size := range a.size {
			for _, ahead := range []int{0, 4} {
				r := reader(strings.Repeat("\x01", ahead+size))
				r.Raw(ahead)
				if !a.do(r) {
					t.Errorf("%s of %d bytes: an answer", a.name, size)
				}
				wantFault(t, r, api.ErrWireShort, ahead, ahead)
			}
		}
		r := reader(strings.Repeat("\x01", a.size))
		if a.do(r) {
			t.Errorf("%s of %d bytes: nothing", a.name, a.size)
		}
		if e, _ := r.Err(); e != api.OK || r.At() != a.size {
			t.Errorf("%s of %d bytes: %d, At %d", a.name, a.size, e, r.At())
		}
	}
}

func TestRawRefused(t *testing.T) {
	for _, c := range []struct {
		n    int
		want api.Errno
	}{{-1, api.ErrArg}, {math.MinInt, api.ErrArg}, {3, api.ErrWireShort}, {math.MaxInt, api.ErrWireShort}} {
		r := reader("abc")
		r.U8()
		if b := r.Raw(c.n); len(b) != 0 {
			t.Errorf("Raw(%d): %x", c.n, b)
		}
		wantFault(t, r, c.want, 1, 1)
	}
}

func TestTextRefusedAt(t *testing.T) {
	for _, c := range []struct {
		bytes string
		bad   int
	}{
		{"\x01\x00\x00", 2}, {"\x01\x00\xff", 2}, {"\x03\x00a\x00b", 3}, {"\x03\x00ab\x80", 4},
		{"\x06\x00é€\xc3", 7}, {"\x05\x00😀\x00", 6}, {"\x04\x00a\xe2\x82b", 3}, {"\x04\x00\xf0\x9f\x98\x00", 2},
		{"\x03\x00\xed\xa0\x80", 2}, {"\x05\x00\xef\xbf\xbd\xef\xbf", 5}, {"\x03\x00\x00\xff\x00", 2}, {"\x03\x00\xff\x00\xff", 2},
		{"\x02\x00a\xc3\xa9", 3}, // the text ends within a character
	} {
		r := reader("zz" + c.bytes)
		r.U16()
		if s := r.Text(); s != "" {
			t.Errorf("%x: Text: %q", c.bytes, s)
		}
		wantFault(t, r, api.ErrWireText, 2+c.bad, 2)
	}
	// Bytes that are short are told ahead of those that are bad.
	r := reader("\x03\x00\xff\xff")
	r.Text()
	wantFault(t, r, api.ErrWireShort, 0, 0)
}

func TestReadParts(t *testing.T) {
	r := reader("\x09" + "\x07\x00" + "\x01" + "\x02\x00\xaa\xbb" + "\x00\x00" + "\x08")
	r.U8()
	p := r.Part()
	wantRight(t, r, 10, 1)
	wantRight(t, p, 3, 7)
	if n := p.U8(); n != 1 {
		t.Errorf("U8: %d", n)
	}
	q := p.Part()
	wantRight(t, p, 8, 2)
	wantRight(t, q, 6, 2)
	if n := q.U16(); n != 0xbbaa {
		t.Errorf("U16: %x", n)
	}
	q.End()
	wantRight(t, q, 8, 0)
	empty := p.Part()
	wantRight(t, empty, 10, 0)
	empty.End()
	wantRight(t, empty, 10, 0)
	if n := r.U8(); n != 8 {
		t.Errorf("U8 behind the part: %d", n)
	}
	wantRight(t, r, 11, 0)
	wantRight(t, p, 10, 0)
}

// A part ends where its count says, whatever stands behind.
func TestPartEnds(t *testing.T) {
	r := reader("\x01\x00abcdefgh")
	p := r.Part()
	p.U16()
	wantFault(t, p, api.ErrWireShort, 2, 2)
	wantRight(t, r, 3, 7)
	r = reader("\x04\x00\x03\x00abcd")
	p = r.Part()
	p.Text()
	wantFault(t, p, api.ErrWireShort, 2, 2)
	r = reader("\x04\x00\x02\x00a\xffcd")
	p = r.Part()
	p.Text()
	wantFault(t, p, api.ErrWireText, 5, 2)
	if s := r.Raw(2); string(s) != "cd" {
		t.Errorf("behind the part: %q", s)
	}
}

// A part of a reader that is wrong is wrong as it is, and stands where that was found.
func TestPartOfWrong(t *testing.T) {
	r := reader("z\x04\x00abc")
	r.U8()
	p := r.Part()
	wantFault(t, r, api.ErrWireShort, 1, 1)
	wantFault(t, p, api.ErrWireShort, 1, 1)
	r = reader("z\x03\x00ab\xff\x01\x00c")
	r.U8()
	r.Text()
	wantFault(t, r, api.ErrWireText, 5, 1)
	p = r.Part()
	wantFault(t, p, api.ErrWireText, 5, 5)
	wantFault(t, p.Part(), api.ErrWireText, 5, 5)
	wantFault(t, r, api.ErrWireText, 5, 1)
	r = reader("ab\x00\x00")
	r.U16()
	r.Fail(api.ErrMsgKind)
	wantFault(t, r.Part(), api.ErrMsgKind, 2, 2)
}

func TestEnd(t *testing.T) {
	r := reader("")
	r.End()
	wantRight(t, r, 0, 0)
	r = reader("ab")
	r.U8()
	r.End()
	wantFault(t, r, api.ErrWireMore, 1, 1)
	r = reader("ab")
	r.U32()
	r.End()
	wantFault(t, r, api.ErrWireShort, 0, 0)
	r = reader("a\x02\x00bc")
	r.U8()
	p := r.Part()
	p.U8()
	p.End()
	wantFault(t, p, api.ErrWireMore, 4, 4)
	r.End()
	wantRight(t, r, 5, 0)
}

func TestFail(t *testing.T) {
	r := reader("abc")
	r.U8()
	r.Fail(api.OK)
	wantRight(t, r, 1, 2)
	if n := r.U8(); n != 'b' {
		t.Errorf("U8 behind Fail(OK): %d", n)
	}
	r.Fail(api.ErrMsgBody)
	wantFault(t, r, api.ErrMsgBody, 2, 2)
	r.Fail(api.ErrArg)
	r.Fail(api.OK)
	wantFault(t, r, api.ErrMsgBody, 2, 2)
	r = reader("")
	r.Fail(api.ErrWireMore)
	wantFault(t, r, api.ErrWireMore, 0, 0)
}

// Whatever is asked of a reader that is wrong, by whichever error, nothing is answered and nothing changes.
func TestWrongReaderStays(t *testing.T) {
	for _, c := range []struct {
		want  api.Errno
		bad   int
		wrong func(*wire.Reader)
	}{
		{api.ErrArg, 1, func(r *wire.Reader) { r.Raw(-1) }},
		{api.ErrWireShort, 1, func(r *wire.Reader) { r.Raw(1000) }},
		{api.ErrWireText, 3, func(r *wire.Reader) { r.Text() }},
		{api.ErrWireMore, 1, func(r *wire.Reader) { r.End() }},
		{api.ErrStatForm, 1, func(r *wire.Reader) { r.Fail(api.ErrStatForm) }},
	} {
		r := reader("\x01" + "\x01\x00\xff" + strings.Repeat("\x01", 300))
		r.U8()
		c.wrong(r)
		for range 2 {
			for _, a := range asks() {
				if !a.do(r) {
					t.Errorf("%s of one that is wrong by %d: an answer", a.name, c.want)
				}
			}
			if len(r.Raw(0)) != 0 || len(r.Raw(-1)) != 0 || len(r.Raw(math.MaxInt)) != 0 {
				t.Errorf("Raw of one that is wrong by %d: an answer", c.want)
			}
			r.End()
			r.Fail(api.ErrPerm)
			wantFault(t, r, c.want, c.bad, 1)
		}
	}
}

// Rows of calls of every sort, of readers and of their parts: each reader is as its model is, after each call.
func TestReaderAsModel(t *testing.T) {
	rnd := rand.New(rand.NewSource(5))
	for range 20000 {
		b := likelyBytes(rnd)
		readers, models := []*wire.Reader{wire.NewReader(b)}, []*modelReader{{all: b}}
		for range rnd.Intn(12) {
			k := rnd.Intn(len(readers))
			if p, m := oneRead(t, rnd, readers[k], models[k]); m != nil {
				readers, models = append(readers, p), append(models, m)
			}
			for i, r := range readers {
				asModel(t, b, r, models[i])
			}
		}
	}
}

// likelyBytes are bytes in which some counts fit, and some texts are good.
func likelyBytes(rnd *rand.Rand) []byte {
	var b []byte
	for range rnd.Intn(5) {
		inner := []byte(someText(rnd, rnd.Intn(3) > 0))
		if rnd.Intn(3) == 0 {
			inner = append(u16(len(inner)), inner...)
		}
		b = append(append(b, u16(len(inner))...), inner...)
		b = append(b, someBytes(rnd, 2)...)
	}
	return b
}

func asModel(t *testing.T, b []byte, r *wire.Reader, m *modelReader) {
	t.Helper()
	if e, bad := r.Err(); e != m.err || bad != m.bad || r.At() != m.at() || r.Left() != m.left() {
		t.Fatalf("%x: Err %d, %d, At %d, Left %d; want %d, %d, %d, %d", b, e, bad, r.At(), r.Left(), m.err, m.bad, m.at(), m.left())
	}
}

// oneRead does the same call to both; the readers of a part, if it was Part.
func oneRead(t *testing.T, rnd *rand.Rand, r *wire.Reader, m *modelReader) (*wire.Reader, *modelReader) {
	number := func(got, want uint64) {
		if got != want {
			t.Fatalf("a number: %x, want %x", got, want)
		}
	}
	switch rnd.Intn(12) {
	case 0:
		number(uint64(r.U8()), m.number(1))
	case 1:
		number(uint64(r.U16()), m.number(2))
	case 2:
		number(uint64(r.U32()), m.number(4))
	case 3:
		number(r.U64(), m.number(8))
	case 4, 5:
		n := rnd.Intn(6) - rnd.Intn(2)
		if got, want := r.Raw(n), m.raw(n); string(got) != string(want) {
			t.Fatalf("Raw(%d): %x, want %x", n, got, want)
		}
	case 6, 7, 8:
		if got, want := r.Text(), m.text(); got != want {
			t.Fatalf("Text: %q, want %q", got, want)
		}
	case 9, 10:
		return r.Part(), m.part()
	case 11:
		if rnd.Intn(2) == 0 {
			r.End()
			m.finish()
		} else {
			e := []api.Errno{api.OK, api.OK, api.ErrArg, api.ErrMsgBody}[rnd.Intn(4)]
			r.Fail(e)
			m.fail(e, m.at())
		}
	}
	return nil, nil
}
