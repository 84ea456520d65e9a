package stat_test

import (
	"bytes"
	"math"
	"math/rand"
	"slices"
	"strings"
	"testing"

	"verger/api"
	"verger/stat"
)

// wantEncoded says what Encode, and Size, tell of a record.
func wantEncoded(t *testing.T, s api.Stat, want []byte) {
	t.Helper()
	b, e := stat.Encode(s)
	if e != api.OK || !bytes.Equal(b, want) || stat.Size(s) != len(want) {
		t.Errorf("Encode(%+.40v): %.80x, %d, Size %d; want %.80x", s, b, e, stat.Size(s), want)
	}
}

// wantRefused says by what Encode refuses a record.
func wantRefused(t *testing.T, s api.Stat, want api.Errno) {
	t.Helper()
	if b, e := stat.Encode(s); e != want || len(b) != 0 {
		t.Errorf("Encode: %d bytes, %d; want error %d", len(b), e, want)
	}
}

func TestEncodeNamed(t *testing.T) {
	s, b := sample()
	wantEncoded(t, s, b)
	s, b = full()
	wantEncoded(t, s, b)
	wantEncoded(t, api.Stat{}, append([]byte{47, 0}, make([]byte, 47)...))
	wantEncoded(t, stat.Keep(), joined([]byte{47, 0}, bytes.Repeat([]byte{0xff}, 39), make([]byte, 8)))
}

func TestEncodeMixed(t *testing.T) {
	rnd := rand.New(rand.NewSource(1))
	for range 3000 {
		s := someStat(rnd)
		want, _ := encode(s)
		wantEncoded(t, s, want)
	}
}

// with is the sample with these four texts.
func with(name, uid, gid, muid string) api.Stat {
	s, _ := sample()
	s.Name, s.Uid, s.Gid, s.Muid = name, uid, gid, muid
	return s
}

// Of texts that can't be written the first one is told, whatever the others are.
func TestEncodeFirstText(t *testing.T) {
	long, longBad := strings.Repeat("a", 65536), strings.Repeat("\xff", 65536)
	kinds := []struct {
		text string
		e    api.Errno
	}{{"a", api.OK}, {"\xff", api.ErrWireText}, {"a\x00", api.ErrWireText}, {long, api.ErrWireLong}, {longBad, api.ErrWireLong}}
	for _, a := range kinds {
		for _, b := range kinds {
			for _, c := range kinds {
				for _, d := range kinds {
					want := api.OK
					for _, e := range []api.Errno{d.e, c.e, b.e, a.e} {
						if e != api.OK {
							want = e
						}
					}
					if _, e := stat.Encode(with(a.text, b.text, c.text, d.text)); e != want {
						t.Errorf("Encode of %.3q, %.3q, %.3q, %.3q: %d, want %d", a.text, b.text, c.text, d.text, e, want)
					}
				}
			}
		}
	}
}

func TestEncodeBadTexts(t *testing.T) {
	for _, bad := range []string{"\x00", "a\x00b", "\x80", "\xc0\x80", "\xc3", "\xed\xa0\x80", "\xf4\x90\x80\x80", "é\xff", strings.Repeat("a", 65534) + "\xff", strings.Repeat("\x00", 65535)} {
		wantRefused(t, with(bad, "", "", ""), api.ErrWireText)
		wantRefused(t, with("", bad, "", ""), api.ErrWireText)
		wantRefused(t, with("", "", bad, ""), api.ErrWireText)
		wantRefused(t, with("", "", "", bad), api.ErrWireText)
	}
}

// At most 65535 bytes stand behind the first two: 65488 of them are texts'.
func TestEncodeLongest(t *testing.T) {
	const most = 65535 - 47
	a := func(n int) string { return strings.Repeat("a", n) }
	for _, s := range []api.Stat{with(a(most), "", "", ""), with("", a(most), "", ""), with("", "", a(most), ""), with("", "", "", a(most)), with(a(most-30), a(7), a(12), a(11))} {
		want, e := encode(s)
		if e != api.OK || len(want) != 65537 {
			t.Fatalf("the model's: %d bytes, %d", len(want), e)
		}
		wantEncoded(t, s, want)
		if got, e := stat.Decode(want); e != api.OK || got != s {
			t.Errorf("Decode: %d", e)
		}
		s.Muid += "b"
		wantRefused(t, s, api.ErrWireLong)
		if n := stat.Size(s); n != 65538 {
			t.Errorf("Size: %d", n)
		}
	}
	wantRefused(t, with(a(65535), "", "", ""), api.ErrWireLong)
	wantRefused(t, with(a(65535), a(65535), a(65535), a(65535)), api.ErrWireLong)
	wantRefused(t, with(a(65535), "", "", "\xff"), api.ErrWireText)
	wantRefused(t, with(a(65535), "", "", "\x00"), api.ErrWireText)
}

// Size counts the texts whether they can be written or not.
func TestSizeOfAnything(t *testing.T) {
	for _, c := range []struct {
		s    api.Stat
		want int
	}{
		{api.Stat{}, 49},
		{with("\xff", "\x00\x00", "", "abc"), 49 + 6},
		{with(strings.Repeat("x", 100000), "", "é", strings.Repeat("\xff", 70000)), 49 + 170002},
		{with("1", "22", "4444", "88888888"), 49 + 15},
	} {
		if n := stat.Size(c.s); n != c.want {
			t.Errorf("Size: %d, want %d", n, c.want)
		}
	}
}

// wantDecoded says that b is a record's bytes, or (nil) none's.
func wantDecoded(t *testing.T, b []byte, want *api.Stat) {
	t.Helper()
	s, e := stat.Decode(b)
	if want == nil && (e != api.ErrStatForm || s != api.Stat{}) {
		t.Errorf("Decode(%.80x): %+v, %d; want ErrStatForm", b, s, e)
	}
	if want != nil && (e != api.OK || s != *want) {
		t.Errorf("Decode(%.80x): %+v, %d; want %+v", b, s, e, *want)
	}
}

// wantDecodedAs is wantDecoded by what the model says.
func wantDecodedAs(t *testing.T, b []byte) {
	t.Helper()
	if s, n := front(b); n > 0 && n == len(b) {
		wantDecoded(t, b, &s)
	} else {
		wantDecoded(t, b, nil)
	}
}

func TestDecodeNamed(t *testing.T) {
	for _, of := range []func() (api.Stat, []byte){sample, full} {
		s, b := of()
		wantDecoded(t, b, &s)
		for n := range b {
			wantDecoded(t, b[:n], nil)
			wantDecoded(t, b[n+1:], nil)
		}
		wantDecoded(t, joined(b, []byte{0}), nil)
		wantDecoded(t, joined(b, b), nil)
		wantDecoded(t, joined([]byte{0}, b), nil)
	}
	wantDecoded(t, nil, nil)
	wantDecoded(t, []byte{0, 0}, nil)
	wantDecoded(t, append([]byte{47, 0}, make([]byte, 47)...), &api.Stat{})
	wantDecoded(t, append([]byte{46, 0}, make([]byte, 46)...), nil)
	wantDecoded(t, append([]byte{48, 0}, make([]byte, 48)...), nil)
	keep := stat.Keep()
	wantDecoded(t, joined([]byte{47, 0}, bytes.Repeat([]byte{0xff}, 39), make([]byte, 8)), &keep)
}

// Each byte of a record is put to each value that it can have.
func TestDecodeEachByte(t *testing.T) {
	for _, of := range []func() (api.Stat, []byte){sample, full} {
		_, b := of()
		for i := range b {
			for n := range 256 {
				other := slices.Clone(b)
				other[i] = byte(n)
				wantDecodedAs(t, other)
				wantDecodedAs(t, append(other, "\x00\x00"...))
			}
		}
	}
}

// A record is told by its text alone where that is good.
func TestDecodeBadTexts(t *testing.T) {
	for at := range 4 {
		for _, bad := range []string{"\x00", "\x80", "\xc3", "\xed\xa0\x80", "a\xff", "\x00é"} {
			four := []string{"n", "u", "g", "m"}
			four[at] = bad
			b := body(with(four[0], four[1], four[2], four[3]))
			wantDecoded(t, joined([]byte{byte(len(b)), 0}, b), nil)
		}
	}
}

func TestDecodeMixed(t *testing.T) {
	rnd := rand.New(rand.NewSource(2))
	for range 20000 {
		b := allBytes(someStats(rnd, 2))
		if len(b) > 0 && rnd.Intn(2) == 0 {
			b[rnd.Intn(len(b))] += byte(1 + rnd.Intn(3))
		}
		if rnd.Intn(4) == 0 {
			b = b[:rnd.Intn(len(b)+1)]
		}
		wantDecodedAs(t, b)
	}
}

// wantRecords says what b falls into; all says whether nothing is left.
func wantRecords(t *testing.T, b []byte, want []placed, all bool) {
	t.Helper()
	if got := each(b); !slices.Equal(got, want) {
		t.Errorf("Each(%.200x): %+v, want %+v", b, got, want)
	}
	l, e := stat.Records(b)
	if !all {
		if e != api.ErrStatForm || len(l) != 0 {
			t.Errorf("Records(%.200x): %d, %d; want ErrStatForm", b, len(l), e)
		}
		return
	}
	if e != api.OK || len(l) != len(want) {
		t.Errorf("Records(%.200x): %d, %d; want %d", b, len(l), e, len(want))
		return
	}
	for i, s := range l {
		if s != want[i].s {
			t.Errorf("Records(%.200x): %+v as number %d, want %+v", b, s, i, want[i].s)
		}
	}
}

func TestRecordsNamed(t *testing.T) {
	s, a := sample()
	f, b := full()
	wantRecords(t, nil, nil, true)
	wantRecords(t, []byte{}, nil, true)
	wantRecords(t, a, []placed{{0, s}}, true)
	wantRecords(t, joined(a, b), []placed{{0, s}, {52, f}}, true)
	wantRecords(t, joined(b, a, a), []placed{{0, f}, {64, s}, {116, s}}, true)
	for _, tail := range []string{"\x00", "\x01", "\x00\x00", "\x2f\x00", "\xff\xff", string(a[:51]), "\x32\x00" + strings.Repeat("\xff", 50)} {
		wantRecords(t, []byte(tail), nil, false)
		wantRecords(t, joined(a, b, []byte(tail)), []placed{{0, s}, {52, f}}, false)
		wantRecords(t, joined(a, []byte(tail), b), []placed{{0, s}}, false)
	}
	wantRecords(t, a[1:], nil, false)
}

func TestRecordsMixed(t *testing.T) {
	rnd := rand.New(rand.NewSource(3))
	for range 3000 {
		b := allBytes(someStats(rnd, 5))
		if len(b) > 0 && rnd.Intn(2) == 0 {
			b[rnd.Intn(len(b))] += byte(1 + rnd.Intn(3))
		}
		if rnd.Intn(4) == 0 {
			b = b[:rnd.Intn(len(b)+1)]
		}
		want, all := fall(b)
		wantRecords(t, b, want, all)
	}
}

// More than a writer or a part could hold: lists of records have no limit of their own.
func TestRecordsMany(t *testing.T) {
	const many = 3000
	s, b := full()
	all := bytes.Repeat(b, many)
	l, e := stat.Records(all)
	if e != api.OK || len(l) != many || l[0] != s || l[many-1] != s {
		t.Errorf("Records: %d, %d", len(l), e)
	}
	if got := each(all); len(got) != many || got[many-1] != (placed{(many - 1) * len(b), s}) {
		t.Errorf("Each: %d", len(got))
	}
	if p, n := stat.Pack(len(all), l...); n != many || !bytes.Equal(p, all) {
		t.Errorf("Pack: %d bytes, %d", len(p), n)
	}
}

// wantPacked says what of l Pack takes, and how many these are.
func wantPacked(t *testing.T, most int, l []api.Stat, want int) {
	t.Helper()
	b, n := stat.Pack(most, l...)
	if n != want || !bytes.Equal(b, allBytes(l[:want])) {
		t.Errorf("Pack(%d): %d bytes, %d; want the first %d", most, len(b), n, want)
	}
}

func TestPackNamed(t *testing.T) {
	s, _ := sample()
	f, _ := full()
	l := []api.Stat{s, f, s}
	for _, c := range []struct{ most, want int }{
		{math.MinInt, 0}, {-1, 0}, {0, 0}, {1, 0}, {51, 0}, {52, 1}, {53, 1}, {115, 1}, {116, 2}, {117, 2}, {167, 2}, {168, 3}, {169, 3}, {math.MaxInt, 3},
	} {
		wantPacked(t, c.most, l, c.want)
	}
	for _, most := range []int{math.MinInt, -1, 0, 1, 100, math.MaxInt} {
		wantPacked(t, most, nil, 0)
	}
}

// It ends at the first one that does not fit: a smaller one behind is not taken.
func TestPackEndsAtFirst(t *testing.T) {
	small, large := api.Stat{}, with(strings.Repeat("n", 100), "", "", "")
	wantPacked(t, 49+49, []api.Stat{small, large, small}, 1)
	wantPacked(t, 148, []api.Stat{large, small, small}, 0)
	wantPacked(t, 49+149, []api.Stat{small, large, small}, 2)
}

func TestPackEndsAtBad(t *testing.T) {
	s, _ := sample()
	for _, bad := range []api.Stat{with("\xff", "", "", ""), with("", "", "", "\x00"), with(strings.Repeat("a", 65489), "", "", ""), with("", strings.Repeat("a", 65536), "", "")} {
		for at := range 4 {
			l := slices.Insert([]api.Stat{s, s, s}, at, bad)
			for _, most := range []int{52 * 2, 1000, 1 << 20, math.MaxInt} {
				wantPacked(t, most, l, min(at, most/52))
			}
		}
	}
}

// Pack is not held to what one writer can hold.
func TestPackMuch(t *testing.T) {
	long := with(strings.Repeat("a", 65488), "", "", "")
	l := slices.Repeat([]api.Stat{long}, 258) // 16908546 bytes
	wantPacked(t, math.MaxInt, l, 258)
	wantPacked(t, api.MaxWire, l, 255)
}

func TestPackMixed(t *testing.T) {
	rnd := rand.New(rand.NewSource(4))
	for range 1000 {
		l := someStats(rnd, 6)
		if len(l) > 0 && rnd.Intn(3) == 0 {
			l[rnd.Intn(len(l))].Gid = "\xff"
		}
		most := rnd.Intn(500) - 10
		want, size := 0, 0
		for _, s := range l {
			b, e := encode(s)
			size += len(b)
			if e != api.OK || size > most {
				break
			}
			want++
		}
		wantPacked(t, most, l, want)
	}
}
