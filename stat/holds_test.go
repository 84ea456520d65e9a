package stat_test

import (
	"bytes"
	"math/rand"
	"slices"
	"testing"

	"verger/api"
	"verger/stat"
)

// There and back, in one form: Decode of what Encode gives is the record.
func TestThereAndBack(t *testing.T) {
	rnd := rand.New(rand.NewSource(9))
	for range 5000 {
		s := someStat(rnd)
		b, e := stat.Encode(s)
		if e != api.OK {
			t.Fatalf("Encode(%+v): %d", s, e)
		}
		if back, e := stat.Decode(b); e != api.OK || back != s {
			t.Fatalf("Decode(%x): %+v, %d; want %+v", b, back, e, s)
		}
	}
}

// Encode of what Decode gives is the bytes; bytes fall into records in one way at most.
func TestBackAndThere(t *testing.T) {
	rnd := rand.New(rand.NewSource(10))
	for range 5000 {
		b := allBytes(someStats(rnd, 3))
		if len(b) > 0 {
			b[rnd.Intn(len(b))] = byte(rnd.Intn(256))
		}
		if s, e := stat.Decode(b); e == api.OK {
			if again, e := stat.Encode(s); e != api.OK || !bytes.Equal(again, b) {
				t.Fatalf("Encode of what Decode(%x) gives: %x, %d", b, again, e)
			}
		}
		if l, e := stat.Records(b); e == api.OK {
			if again, n := stat.Pack(len(b), l...); n != len(l) || !bytes.Equal(again, b) {
				t.Fatalf("Pack of what Records(%x) gives: %x, %d", b, again, n)
			}
		}
	}
}

// Packed piece by piece, whatever the pieces' sizes are: all records, each once, in order.
func TestPackedInPieces(t *testing.T) {
	rnd := rand.New(rand.NewSource(11))
	for range 500 {
		l := someStats(rnd, 12)
		largest := 49
		for _, s := range l {
			largest = max(largest, stat.Size(s))
		}
		var got []api.Stat
		for rest := l; len(rest) > 0; {
			most := largest + rnd.Intn(200)
			b, n := stat.Pack(most, rest...)
			piece, e := stat.Records(b)
			if n == 0 || len(b) > most || e != api.OK || len(piece) != n {
				t.Fatalf("Pack(%d): %d bytes, %d; Records: %d, %d", most, len(b), n, len(piece), e)
			}
			got = append(got, piece...)
			rest = rest[n:]
		}
		if !slices.Equal(got, l) {
			t.Fatalf("packed %+v, came to %+v", l, got)
		}
	}
}

// The chapter's examples, by their numbers.

func TestExample1(t *testing.T) {
	s, b := sample()
	got, e := stat.Encode(s)
	if e != api.OK || !bytes.Equal(got, b) || len(b) != 52 {
		t.Errorf("Encode: %x, %d", got, e)
	}
}

func TestExample2(t *testing.T) {
	s, b := sample()
	longer := joined(b, []byte{0})
	if _, e := stat.Decode(longer); e != api.ErrStatForm {
		t.Errorf("Decode: %d", e)
	}
	if l, e := stat.Records(longer); e != api.ErrStatForm || len(l) != 0 {
		t.Errorf("Records: %d, %d", len(l), e)
	}
	if got := each(longer); !slices.Equal(got, []placed{{0, s}}) {
		t.Errorf("Each: %+v", got)
	}
	if got := each(joined(b, b)); !slices.Equal(got, []placed{{0, s}, {52, s}}) {
		t.Errorf("Each of two: %+v", got)
	}
}

func TestExample3(t *testing.T) {
	s, b := sample()
	if got, n := stat.Pack(110, s, s, s); n != 2 || !bytes.Equal(got, joined(b, b)) {
		t.Errorf("Pack(110): %x, %d", got, n)
	}
	if got, n := stat.Pack(51, s, s, s); n != 0 || len(got) != 0 {
		t.Errorf("Pack(51): %x, %d", got, n)
	}
}

func TestExample4(t *testing.T) {
	s, _ := sample()
	k := stat.Keep()
	k.Length = 9
	if f := stat.Touched(k, s); f != api.FieldLength {
		t.Errorf("Touched: %b", f)
	}
	k.Length = 3
	if f := stat.Touched(k, s); f != 0 {
		t.Errorf("Touched: %b", f)
	}
}

func TestExample5(t *testing.T) {
	for mode, want := range map[uint32]string{2147484141: "d---rwxr-xr-x", 134217728: "-------------+8000000"} {
		if got := stat.Mode(mode); got != want {
			t.Errorf("Mode(%d): %q", mode, got)
		}
	}
	if n, e := stat.ParseMode("d---rwxr-xr-x+0"); n != 0 || e != api.ErrStatMode {
		t.Errorf("ParseMode: %d, %d", n, e)
	}
}

// The chapter's errors have these numbers.
func TestErrors(t *testing.T) {
	for e, want := range map[api.Errno]int{api.ErrWireText: 12, api.ErrWireLong: 13, api.ErrStatForm: 20, api.ErrStatMode: 21} {
		if int(e) != want {
			t.Errorf("error %d: %d", want, e)
		}
	}
}
