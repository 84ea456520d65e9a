package wire_test

import (
	"math"
	"math/rand"
	"strings"
	"testing"

	"verger/api"
	"verger/wire"
)

func TestNewWriter(t *testing.T) {
	for _, limit := range []int{0, 1, 2, 512, 65536, 16777215, 16777216} {
		w := newWriter(t, limit)
		wantWritten(t, w, "")
	}
	for _, limit := range []int{-1, -2, math.MinInt, 16777217, math.MaxInt} {
		if w, e := wire.NewWriter(limit); w != nil || e != api.ErrArg {
			t.Errorf("NewWriter(%d): %v, %d", limit, w, e)
		}
	}
}

func TestWriteNumbers(t *testing.T) {
	w := newWriter(t, 100)
	w.U8(0)
	w.U8(0xff)
	w.U16(0x0102)
	w.U16(0xffff)
	w.U32(0x01020304)
	w.U32(0x80000000)
	w.U64(0x0102030405060708)
	w.U64(0x8000000000000000)
	wantWritten(t, w, "\x00\xff"+"\x02\x01\xff\xff"+"\x04\x03\x02\x01\x00\x00\x00\x80"+"\x08\x07\x06\x05\x04\x03\x02\x01\x00\x00\x00\x00\x00\x00\x00\x80")
}

func TestWriteBytesAndTexts(t *testing.T) {
	w := newWriter(t, 100)
	w.Raw(nil)
	w.Raw([]byte{})
	w.Raw([]byte{0, 0xff, 0xc3})
	w.Text("")
	w.Text("é\x01")
	w.Text("\ufffd")
	wantWritten(t, w, "\x00\xff\xc3"+"\x00\x00"+"\x03\x00é\x01"+"\x03\x00\xef\xbf\xbd")
	w = newWriter(t, 70000)
	w.Text(strings.Repeat("x", 258))
	wantWritten(t, w, "\x02\x01"+strings.Repeat("x", 258))
}

// call is one call on a writer, and how many bytes it is to write.
type call struct {
	name string
	size int
	do   func(*wire.Writer)
}

func calls() []call {
	return []call{
		{"U8", 1, func(w *wire.Writer) { w.U8(1) }},
		{"U16", 2, func(w *wire.Writer) { w.U16(1) }},
		{"U32", 4, func(w *wire.Writer) { w.U32(1) }},
		{"U64", 8, func(w *wire.Writer) { w.U64(1) }},
		{"Raw", 3, func(w *wire.Writer) { w.Raw([]byte{1, 2, 3}) }},
		{"Text", 5, func(w *wire.Writer) { w.Text("abc") }},
		{"empty Text", 2, func(w *wire.Writer) { w.Text("") }},
		{"Open", 2, func(w *wire.Writer) { w.Shut(w.Open()) }},
	}
}

// Each call may go up to the limit; past it nothing of it is written, nor of what comes behind.
func TestWriterLimit(t *testing.T) {
	for _, c := range calls() {
		for _, ahead := range []int{0, 5} {
			w := newWriter(t, ahead+c.size)
			w.Raw(make([]byte, ahead))
			c.do(w)
			if _, e := w.Done(); e != api.OK || w.Len() != ahead+c.size {
				t.Errorf("%s at the limit: %d, Len %d", c.name, e, w.Len())
			}
			w.Raw(nil)
			if _, e := w.Done(); e != api.OK {
				t.Errorf("nothing, behind %s at the limit: %d", c.name, e)
			}
			for room := range c.size {
				w = newWriter(t, ahead+room)
				w.Raw(make([]byte, ahead))
				c.do(w)
				wantWrong(t, w, api.ErrWireFull, ahead)
				w.Raw(nil)
				w.U8(1)
				wantWrong(t, w, api.ErrWireFull, ahead)
			}
		}
	}
}

func TestWriterLimitGreatest(t *testing.T) {
	w := newWriter(t, api.MaxWire)
	w.Raw(make([]byte, 16777214))
	w.U16(0x0201)
	b, e := w.Done()
	if e != api.OK || len(b) != 16777216 || b[16777214] != 1 || b[16777215] != 2 {
		t.Errorf("Done: %d bytes, %d", len(b), e)
	}
	w.U8(1)
	wantWrong(t, w, api.ErrWireFull, 16777216)
}

func TestTextRefused(t *testing.T) {
	good, long := strings.Repeat("x", 65535), strings.Repeat("x", 65536)
	w := newWriter(t, 70000)
	w.Text(good)
	wantWritten(t, w, "\xff\xff"+good)
	for _, c := range []struct {
		why   string
		limit int
		text  string
		want  api.Errno
	}{
		{"too long", 70000, long, api.ErrWireLong},
		{"too long in bytes, not in characters", 70000, strings.Repeat("é", 32768), api.ErrWireLong},
		{"too long and not good", 70000, long + "\x00", api.ErrWireLong},
		{"too long, and no room", 0, long, api.ErrWireLong},
		{"not good", 70000, "a\xff", api.ErrWireText},
		{"00", 70000, "\x00", api.ErrWireText},
		{"a surrogate", 70000, "\xed\xa0\x80", api.ErrWireText},
		{"not good, and no room", 1, "a\xff", api.ErrWireText},
		{"room for the count alone", 2, "a", api.ErrWireFull},
		{"room for all but one byte", 65536, good, api.ErrWireFull},
	} {
		w := newWriter(t, c.limit)
		w.Text(c.text)
		if _, e := w.Done(); e != c.want || w.Len() != 0 {
			t.Errorf("%s: %d, Len %d; want %d", c.why, e, w.Len(), c.want)
		}
	}
}

func TestParts(t *testing.T) {
	w := newWriter(t, 100)
	w.U8(9)
	outer := w.Open()
	inner := w.Open()
	if outer != 1 || inner != 3 {
		t.Errorf("Open: %d, %d; want 1, 3", outer, inner)
	}
	w.U16(0x0201)
	w.Shut(inner)
	next := w.Open()
	if next != 7 {
		t.Errorf("Open: %d; want 7", next)
	}
	w.Shut(next)
	wantWrong(t, w, api.ErrArg, 9)
	w.Text("z")
	w.Shut(outer)
	wantWritten(t, w, "\x09"+"\x09\x00"+"\x02\x00\x01\x02"+"\x00\x00"+"\x01\x00z")
}

func TestPartSizes(t *testing.T) {
	for _, size := range []int{0, 1, 255, 256, 65534, 65535} {
		w := newWriter(t, 70000)
		at := w.Open()
		w.Raw(make([]byte, size))
		w.Shut(at)
		b, e := w.Done()
		if e != api.OK || len(b) != size+2 || string(b[:2]) != string(u16(size)) {
			t.Errorf("a part of %d: %d bytes, %d", size, len(b), e)
		}
	}
	for _, size := range []int{65536, 69998} {
		w := newWriter(t, 70000)
		at := w.Open()
		w.Raw(make([]byte, size))
		wantWrong(t, w, api.ErrArg, size+2)
		w.Shut(at)
		wantWrong(t, w, api.ErrWireLong, size+2)
	}
	// The count is of what stands behind a part's own U16, wherever that is.
	w := newWriter(t, 200000)
	w.Raw(make([]byte, 100000))
	at := w.Open()
	w.Raw(make([]byte, 65535))
	w.Shut(at)
	if b, e := w.Done(); e != api.OK || b[at] != 0xff || b[at+1] != 0xff {
		t.Errorf("a part at %d: %d", at, e)
	}
}

func TestShutRefused(t *testing.T) {
	for _, c := range []struct {
		why  string
		size int
		do   func(*wire.Writer)
	}{
		{"none was opened", 0, func(w *wire.Writer) { w.Shut(0) }},
		{"none is open", 2, func(w *wire.Writer) { w.Shut(w.Open()); w.Shut(0) }},
		{"a place behind", 2, func(w *wire.Writer) { w.Shut(w.Open() + 1) }},
		{"a place ahead", 3, func(w *wire.Writer) { w.U8(1); w.Shut(w.Open() - 1) }},
		{"the outer one first", 4, func(w *wire.Writer) { at := w.Open(); w.Open(); w.Shut(at) }},
		{"the inner one twice", 4, func(w *wire.Writer) { w.Open(); at := w.Open(); w.Shut(at); w.Shut(at) }},
		{"below all", 2, func(w *wire.Writer) { w.Open(); w.Shut(math.MinInt) }},
		{"beyond all", 2, func(w *wire.Writer) { w.Open(); w.Shut(math.MaxInt) }},
		{"a wrong place of a part that is too long", 65538, func(w *wire.Writer) { w.Open(); w.Raw(make([]byte, 65536)); w.Shut(1) }},
	} {
		w := newWriter(t, 70000)
		c.do(w)
		if b, e := w.Done(); e != api.ErrArg || len(b) != 0 || w.Len() != c.size {
			t.Errorf("%s: %d, Len %d; want Len %d", c.why, e, w.Len(), c.size)
		}
		// It was made wrong by that: what is written now is not.
		w.U8(1)
		w.Raw(make([]byte, 70000))
		wantWrong(t, w, api.ErrArg, c.size)
	}
}

// A part that could not be opened is not open, and its place is 0.
func TestOpenRefused(t *testing.T) {
	w := newWriter(t, 6)
	w.Raw([]byte("abcde"))
	if at := w.Open(); at != 0 {
		t.Errorf("Open without room: %d", at)
	}
	wantWrong(t, w, api.ErrWireFull, 5)
	if at := w.Open(); at != 0 {
		t.Errorf("Open of one that is wrong: %d", at)
	}
	w.Shut(0)
	wantWrong(t, w, api.ErrWireFull, 5)
}

// Done of a part that is open tells so, but the writer stays right; and Done can be asked again and again.
func TestDoneGoesOn(t *testing.T) {
	w := newWriter(t, 100)
	w.U8(1)
	wantWritten(t, w, "\x01")
	at := w.Open()
	wantWrong(t, w, api.ErrArg, 3)
	w.Text("ab")
	wantWrong(t, w, api.ErrArg, 7)
	w.Shut(at)
	wantWritten(t, w, "\x01\x04\x00\x02\x00ab")
	wantWritten(t, w, "\x01\x04\x00\x02\x00ab")
	w.U8(2)
	wantWritten(t, w, "\x01\x04\x00\x02\x00ab\x02")
}

// An error that came with a part open is told ahead of the part.
func TestDoneOfWrongAndOpen(t *testing.T) {
	w := newWriter(t, 100)
	w.Open()
	w.Text("\x00")
	wantWrong(t, w, api.ErrWireText, 2)
}

// Whatever is asked of a writer that is wrong, by whichever error, nothing changes.
func TestWrongWriterStays(t *testing.T) {
	for _, c := range []struct {
		want  api.Errno
		wrong func(*wire.Writer)
	}{
		{api.ErrWireFull, func(w *wire.Writer) { w.Raw(make([]byte, 70001)) }},
		{api.ErrWireText, func(w *wire.Writer) { w.Text("\x80") }},
		{api.ErrWireLong, func(w *wire.Writer) { w.Text(strings.Repeat("a", 65536)) }},
		{api.ErrArg, func(w *wire.Writer) { w.Shut(7) }},
	} {
		w := newWriter(t, 70001)
		w.U8(5)
		c.wrong(w)
		wantWrong(t, w, c.want, 1)
		for _, next := range calls() {
			next.do(w)
		}
		w.Raw(nil)
		w.Raw(make([]byte, 70001))
		w.Text("\x00")
		w.Text(strings.Repeat("a", 65536))
		w.Shut(0)
		w.Shut(-1)
		if at := w.Open(); at != 0 {
			t.Errorf("Open of one that is wrong: %d", at)
		}
		wantWrong(t, w, c.want, 1)
	}
}

// Rows of calls of every sort: the writer is as the model is, after each one.
func TestWriterAsModel(t *testing.T) {
	rnd := rand.New(rand.NewSource(4))
	for range 4000 {
		limit := rnd.Intn(60)
		w, m := newWriter(t, limit), &modelWriter{limit: limit}
		for range rnd.Intn(20) {
			oneWrite(t, rnd, w, m)
			b, e := w.Done()
			want, wantErr := m.done()
			if e != wantErr || string(b) != string(want) || w.Len() != len(m.out) {
				t.Fatalf("limit %d: %x, %d, Len %d; want %x, %d, Len %d", limit, b, e, w.Len(), want, wantErr, len(m.out))
			}
		}
	}
}

// oneWrite does the same call to both.
func oneWrite(t *testing.T, rnd *rand.Rand, w *wire.Writer, m *modelWriter) {
	n := rnd.Uint64()
	switch rnd.Intn(8) {
	case 0:
		w.U8(uint8(n))
		m.put([]byte{byte(n)})
	case 1:
		w.U16(uint16(n))
		m.put(u16(int(uint16(n))))
	case 2:
		w.U32(uint32(n))
		m.put(append(u16(int(uint16(n))), u16(int(uint16(n>>16)))...))
	case 3:
		w.U64(n)
		var b []byte
		for i := range 4 {
			b = append(b, u16(int(uint16(n>>(16*i))))...)
		}
		m.put(b)
	case 4:
		b := someBytes(rnd, 9)
		w.Raw(b)
		m.put(b)
	case 5:
		s := someText(rnd, rnd.Intn(4) > 0)
		w.Text(s)
		m.text(s)
	case 6:
		if got, want := w.Open(), m.begin(); got != want {
			t.Fatalf("Open: %d, want %d", got, want)
		}
	case 7:
		place := rnd.Intn(40) - 2
		if k := len(m.open); k > 0 && rnd.Intn(8) > 0 {
			place = m.open[k-1]
		}
		w.Shut(place)
		m.end(place)
	}
}
