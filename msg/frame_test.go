package msg_test

import (
	"bytes"
	"encoding/binary"
	"math"
	"math/rand"
	"slices"
	"strings"
	"testing"

	"verger/api"
	"verger/msg"
)

// full is a message with something else in each field; Kind is still to be put.
func full() api.Msg {
	return api.Msg{
		Tag: 0x0807, Msize: 0x04030201, Version: "9P", Afid: 0xffffffff, Uname: "né", Aname: "", Ename: "a\n\"\\", Oldtag: 0xfffe,
		Fid: 0x0c0b0a09, Newfid: 16, Names: []string{"..", "", "€"}, Qids: []api.Qid{{Kind: 0x80, Vers: 2, Path: 3}, {Kind: 0xff, Vers: 0xffffffff, Path: math.MaxUint64}},
		Qid: api.Qid{Kind: 0x14, Vers: 0x18171615, Path: 0x201f1e1d1c1b1a19}, Mode: 0xfd, Iounit: 0x24232221, Name: "x\x7f", Perm: 0x800001ff,
		Offset: 0x2c2b2a2928272625, Count: 10, Data: []byte{0, 0xff, 0xc3, 'a'},
		Stat: api.Stat{Type: 1, Dev: 2, Qid: api.Qid{Kind: 3, Vers: 4, Path: 5}, Mode: 6, Atime: 7, Mtime: 8, Length: 9, Name: "n", Uid: "ui", Gid: "", Muid: "m"},
	}
}

// fullParts are the fields of full, as bytes and as words with values.
func fullParts() map[string][2]string {
	record := "\x01\x00" + "\x02\x00\x00\x00" + "\x03\x04\x00\x00\x00\x05\x00\x00\x00\x00\x00\x00\x00" + "\x06\x00\x00\x00" + "\x07\x00\x00\x00" + "\x08\x00\x00\x00" +
		"\x09\x00\x00\x00\x00\x00\x00\x00" + "\x01\x00n" + "\x02\x00ui" + "\x00\x00" + "\x01\x00m"
	return map[string][2]string{
		"Msize":   {"\x01\x02\x03\x04", "msize=67305985"},
		"Version": {"\x02\x009P", `version="9P"`},
		"Afid":    {"\xff\xff\xff\xff", "afid=4294967295"},
		"Uname":   {"\x03\x00n\xc3\xa9", "uname=\"n\xc3\xa9\""},
		"Aname":   {"\x00\x00", `aname=""`},
		"Ename":   {"\x04\x00a\x0a\x22\x5c", `ename="a\x0a\"\\"`},
		"Oldtag":  {"\xfe\xff", "oldtag=65534"},
		"Fid":     {"\x09\x0a\x0b\x0c", "fid=202050057"},
		"Newfid":  {"\x10\x00\x00\x00", "newfid=16"},
		"Names":   {"\x03\x00" + "\x02\x00.." + "\x00\x00" + "\x03\x00\xe2\x82\xac", "names=[\"..\" \"\" \"\xe2\x82\xac\"]"},
		"Qids":    {"\x02\x00" + "\x80\x02\x00\x00\x00\x03\x00\x00\x00\x00\x00\x00\x00" + strings.Repeat("\xff", 13), "qids=[128.2.3 255.4294967295.18446744073709551615]"},
		"Qid":     {"\x14\x15\x16\x17\x18\x19\x1a\x1b\x1c\x1d\x1e\x1f\x20", "qid=20.404166165.2314601843866147353"},
		"Mode":    {"\xfd", "mode=253"},
		"Iounit":  {"\x21\x22\x23\x24", "iounit=606282273"},
		"Name":    {"\x02\x00x\x7f", `name="x\x7f"`},
		"Perm":    {"\xff\x01\x00\x80", "perm=2147484159"},
		"Offset":  {"\x25\x26\x27\x28\x29\x2a\x2b\x2c", "offset=3182683917923067429"},
		"Count":   {"\x0a\x00\x00\x00", "count=10"},
		"Data":    {"\x04\x00\x00\x00\x00\xff\xc3a", "data=00ffc361"},
		"Stat":    {"\x35\x00" + "\x33\x00" + record, `stat={type=1 dev=2 qid=3.4.5 mode=6 atime=7 mtime=8 length=9 name="n" uid="ui" gid="" muid="m"}`},
	}
}

// named is a message of a kind, its frame and its line, put together by hand.
func named(r kindRow) (api.Msg, []byte, string) {
	m := full()
	m.Kind = r.kind
	body, line := "", r.name+" 2055"
	for _, f := range r.uses {
		body += fullParts()[f][0]
		line += " " + fullParts()[f][1]
	}
	return m, framed(r.kind, 0x0807, body), line
}

func TestNamedFrames(t *testing.T) {
	for _, r := range chapterKinds() {
		m, frame, line := named(r)
		wantEncoded(t, m, frame, line)
		wantDecoded(t, frame, clean(m), api.OK)
		wantParsed(t, line, clean(m))
		bare := api.Msg{Kind: r.kind}
		wantEncoded(t, bare, encode(bare), text(bare))
	}
}

func TestMixedFrames(t *testing.T) {
	rnd := rand.New(rand.NewSource(2))
	for _, m := range someMsgs(rnd, 100) {
		wantEncoded(t, m, encode(m), text(m))
		wantDecoded(t, encode(m), clean(m), api.OK)
	}
}

// Of a kind that is none nothing is written, whatever stands in it.
func TestEncodeNoKind(t *testing.T) {
	for n := range 256 {
		if _, known := rowOf(api.Kind(n)); known {
			continue
		}
		m := full()
		m.Kind = api.Kind(n)
		wantRefused(t, m, api.ErrMsgKind)
		m.Names, m.Ename, m.Data = make([]string, 17), "\xff", make([]byte, 70000)
		wantRefused(t, m, api.ErrMsgKind)
	}
}

// notGood are texts that are not good.
func notGood() []string {
	return []string{"\x00", "a\x00b", "\x80", "\xc0\x80", "\xc3", "é\xff", "\xed\xa0\x80", "\xf4\x90\x80\x80", strings.Repeat("a", 70000) + "\x00", strings.Repeat("\xff", 65536)}
}

// mayNotBe are messages that may not be by what one field of theirs has.
func mayNotBe() []api.Msg {
	l := []api.Msg{
		{Kind: api.Twalk, Names: make([]string, 17)},
		{Kind: api.Twalk, Names: make([]string, 65536)},
		{Kind: api.Rwalk, Qids: make([]api.Qid, 17)},
		{Kind: api.Rwalk, Qids: make([]api.Qid, 65536)},
	}
	for _, bad := range notGood() {
		l = append(l,
			api.Msg{Kind: api.Tversion, Version: bad}, api.Msg{Kind: api.Rversion, Version: bad},
			api.Msg{Kind: api.Tauth, Uname: bad}, api.Msg{Kind: api.Tauth, Aname: bad},
			api.Msg{Kind: api.Tattach, Uname: bad}, api.Msg{Kind: api.Tattach, Aname: bad},
			api.Msg{Kind: api.Rerror, Ename: bad}, api.Msg{Kind: api.Tcreate, Name: bad},
			api.Msg{Kind: api.Twalk, Names: []string{bad}}, api.Msg{Kind: api.Twalk, Names: []string{"a", "", bad}})
		for _, kind := range []api.Kind{api.Rstat, api.Twstat} {
			l = append(l, api.Msg{Kind: kind, Stat: api.Stat{Name: bad}}, api.Msg{Kind: kind, Stat: api.Stat{Uid: bad}},
				api.Msg{Kind: kind, Stat: api.Stat{Gid: bad}}, api.Msg{Kind: kind, Stat: api.Stat{Muid: bad}})
		}
	}
	return l
}

func TestEncodeBadArguments(t *testing.T) {
	for _, m := range mayNotBe() {
		wantRefused(t, m, api.ErrMsgArg)
	}
}

// What is not good counts first, wherever what is too long stands.
func TestArgumentAheadOfSize(t *testing.T) {
	long := strings.Repeat("a", 65536)
	for _, m := range []api.Msg{
		{Kind: api.Tauth, Uname: long, Aname: "\xff"},
		{Kind: api.Tauth, Uname: "\xff", Aname: long},
		{Kind: api.Tattach, Uname: strings.Repeat("a", 65535), Aname: "\x00"},
		{Kind: api.Twalk, Names: []string{long, "\xff"}},
		{Kind: api.Twalk, Names: append(make([]string, 16), long)},
		{Kind: api.Rstat, Stat: api.Stat{Name: long, Muid: "\xff"}},
		{Kind: api.Twstat, Stat: api.Stat{Name: long, Uid: long, Gid: "\x00"}},
	} {
		wantRefused(t, m, api.ErrMsgArg)
	}
}

// Fields that a kind does not use may be anything.
func TestUnusedFields(t *testing.T) {
	junk := api.Msg{Tag: 1, Version: "\xff", Uname: "\x00", Aname: "\xff", Ename: "\xff", Names: append(make([]string, 17), "\xff"),
		Qids: make([]api.Qid, 17), Name: strings.Repeat("\xff", 70000), Data: make([]byte, 70000), Stat: api.Stat{Name: "\xff", Muid: strings.Repeat("a", 70000)}}
	for _, r := range chapterKinds() {
		m := junk
		m.Kind = r.kind
		plain := api.Msg{Kind: r.kind, Tag: 1}
		for _, f := range r.uses {
			slot(&m, f).SetZero()
		}
		wantEncoded(t, m, encode(plain), text(plain))
	}
}

// The longest lists that may be.
func TestSixteen(t *testing.T) {
	for n := range 17 {
		names := api.Msg{Kind: api.Twalk, Names: slices.Repeat([]string{"né"}, n)}
		wantEncoded(t, names, encode(names), text(names))
		wantDecoded(t, encode(names), names, api.OK)
		wantParsed(t, text(names), names)
		qids := api.Msg{Kind: api.Rwalk, Qids: slices.Repeat([]api.Qid{{Kind: 1, Vers: 2, Path: 3}}, n)}
		wantEncoded(t, qids, encode(qids), text(qids))
		wantDecoded(t, encode(qids), qids, api.OK)
		wantParsed(t, text(qids), qids)
	}
	for _, n := range []int{17, 18, 255, 256, 300, 4096} {
		wantDecoded(t, encode(api.Msg{Kind: api.Twalk, Tag: 9, Names: make([]string, n)}), api.Msg{Kind: api.Twalk, Tag: 9}, api.ErrMsgBody)
		wantDecoded(t, encode(api.Msg{Kind: api.Rwalk, Tag: 9, Qids: make([]api.Qid, n)}), api.Msg{Kind: api.Rwalk, Tag: 9}, api.ErrMsgBody)
	}
}

// longest are messages whose frames have n bytes, each by a long text or long data in another field.
func longest(n int) []api.Msg {
	a := func(n int) string { return strings.Repeat("a", n) }
	l := []api.Msg{
		{Kind: api.Tversion, Version: a(n - 13)}, {Kind: api.Rversion, Version: a(n - 13)},
		{Kind: api.Tauth, Uname: a(n - 15)}, {Kind: api.Tauth, Aname: a(n - 15)},
		{Kind: api.Tattach, Uname: a(n - 19)}, {Kind: api.Tattach, Uname: a(n - 1019), Aname: a(1000)},
		{Kind: api.Rerror, Ename: a(n - 9)}, {Kind: api.Tcreate, Name: a(n - 18)},
		{Kind: api.Twalk, Names: []string{a(n - 19)}}, {Kind: api.Twalk, Names: append(slices.Repeat([]string{a(3000)}, 15), a(n-45049))},
		{Kind: api.Rread, Data: make([]byte, n-11)}, {Kind: api.Twrite, Data: make([]byte, n-23)},
	}
	for kind, head := range map[api.Kind]int{api.Rstat: 9, api.Twstat: 13} {
		l = append(l, api.Msg{Kind: kind, Stat: api.Stat{Name: a(n - head - 49)}}, api.Msg{Kind: kind, Stat: api.Stat{Uid: a(n - head - 49)}},
			api.Msg{Kind: kind, Stat: api.Stat{Gid: a(n - head - 49)}}, api.Msg{Kind: kind, Stat: api.Stat{Name: a(20000), Uid: a(20000), Muid: a(n - head - 40049)}})
	}
	return l
}

// A frame has at most 65536 bytes.
func TestLongestFrames(t *testing.T) {
	for _, n := range []int{65534, 65535, 65536} {
		for _, m := range longest(n) {
			frame, line := encode(m), text(m)
			if len(frame) != n {
				t.Fatalf("kind %d: the model's frame has %d bytes", m.Kind, len(frame))
			}
			wantEncoded(t, m, frame, line)
			wantDecoded(t, frame, m, api.OK)
			wantParsed(t, line, m)
		}
	}
	for _, n := range []int{65537, 65538, 65600, 131072, 140000} {
		for _, m := range longest(n) {
			wantRefused(t, m, api.ErrMsgSize)
			line := text(m)
			if got, at, e := msg.Parse(line); e != api.ErrMsgSize || at != len(line) || !same(got, api.Msg{}) {
				t.Errorf("Parse of a line of kind %d for %d bytes: %s, %d, %d", m.Kind, n, short(got), at, e)
			}
		}
		over := binary.LittleEndian.AppendUint32(nil, uint32(n))
		over = append(over, byte(api.Rread), 0, 0)
		over = binary.LittleEndian.AppendUint32(over, uint32(n-11))
		wantDecoded(t, append(over, make([]byte, n-11)...), api.Msg{}, api.ErrMsgSize)
	}
}

// First of all comes the size: too few bytes, or another number of them.
func TestDecodeSize(t *testing.T) {
	for _, r := range chapterKinds() {
		_, frame, _ := named(r)
		for n := range frame {
			wantDecoded(t, frame[:n], api.Msg{}, api.ErrMsgSize)
			wantDecoded(t, frame[n+1:], api.Msg{}, api.ErrMsgSize)
		}
		wantDecoded(t, append(slices.Clone(frame), 0), api.Msg{}, api.ErrMsgSize)
		for i := range 4 {
			for _, n := range []byte{1, 2, 128, 255} {
				other := slices.Clone(frame)
				other[i] += n
				wantDecoded(t, other, api.Msg{}, api.ErrMsgSize)
			}
		}
	}
	for n := range 7 {
		short := append([]byte{byte(n), 0, 0, 0, 109, 1}, 0)[:n]
		wantDecoded(t, short, api.Msg{}, api.ErrMsgSize)
	}
	wantDecoded(t, nil, api.Msg{}, api.ErrMsgSize)
	wantDecoded(t, []byte{}, api.Msg{}, api.ErrMsgSize)
	wantDecoded(t, []byte{7, 0, 0, 1, 109, 1, 0}, api.Msg{}, api.ErrMsgSize)
}

// Then the kind; what it has behind its head does not count.
func TestDecodeKind(t *testing.T) {
	for n := range 256 {
		if _, known := rowOf(api.Kind(n)); known {
			continue
		}
		want := api.Msg{Kind: api.Kind(n), Tag: 0xfe01}
		wantDecoded(t, framed(api.Kind(n), 0xfe01, ""), want, api.ErrMsgKind)
		wantDecoded(t, framed(api.Kind(n), 0xfe01, "\x01\x00a\xff\xff"), want, api.ErrMsgKind)
	}
}

// Then the body: it ends too soon wherever it is cut, or bytes are left behind it.
func TestDecodeCut(t *testing.T) {
	for _, r := range chapterKinds() {
		m, frame, _ := named(r)
		head := api.Msg{Kind: r.kind, Tag: 0x0807}
		body := string(frame[7:])
		for n := range body {
			wantDecoded(t, framed(r.kind, 0x0807, body[:n]), head, api.ErrMsgBody)
		}
		for _, more := range []string{"\x00", "\x01", "\x00\x00", body + "\x00"} {
			wantDecoded(t, framed(r.kind, 0x0807, body+more), head, api.ErrMsgBody)
		}
		wantDecoded(t, framed(r.kind, 0x0807, body), clean(m), api.OK)
	}
}

// Each byte of a frame is put to others: what comes of it is what the model says.
func TestDecodeEachByte(t *testing.T) {
	for _, r := range chapterKinds() {
		_, frame, _ := named(r)
		for i := range frame {
			for _, n := range []byte{1, 2, 3, 15, 16, 17, 127, 128, 192, 253, 254, 255} {
				other := slices.Clone(frame)
				other[i] += n
				wantDecodedAsModel(t, other)
			}
			other := slices.Clone(frame)
			other[i] = 0
			wantDecodedAsModel(t, other)
			// A byte more or less, and a size that says so.
			wantDecodedAsModel(t, resized(slices.Insert(slices.Clone(frame), i, 1)))
			wantDecodedAsModel(t, resized(slices.Delete(slices.Clone(frame), i, i+1)))
		}
	}
}

// resized is a frame with its size put right.
func resized(frame []byte) []byte {
	if len(frame) >= 4 {
		binary.LittleEndian.PutUint32(frame, uint32(len(frame)))
	}
	return frame
}

func TestDecodeMixed(t *testing.T) {
	rnd := rand.New(rand.NewSource(3))
	for _, m := range someMsgs(rnd, 300) {
		frame := encode(m)
		for range rnd.Intn(3) {
			frame[rnd.Intn(len(frame))] += byte(1 + rnd.Intn(4))
		}
		if rnd.Intn(3) > 0 {
			resized(frame)
		}
		wantDecodedAsModel(t, frame)
	}
}

// A text that is not good is refused in each field, also in a list and in a record.
func TestDecodeBadTexts(t *testing.T) {
	for _, m := range mayNotBe() {
		frame := encode(m)
		if len(frame) <= 65536 {
			wantDecoded(t, frame, api.Msg{Kind: m.Kind}, api.ErrMsgBody)
		}
	}
}

// The counts of a record: the frame's own, and the record's.
func TestDecodeRecordCounts(t *testing.T) {
	s := full().Stat
	record := recordBytes(s)
	count := func(n int) string { return string(binary.LittleEndian.AppendUint16(nil, uint16(n))) }
	for kind, ahead := range map[api.Kind]string{api.Rstat: "", api.Twstat: "\x01\x00\x00\x00"} {
		right := api.Msg{Kind: kind, Fid: uint32(len(ahead)) / 4, Stat: s}
		for d := -3; d <= 3; d++ {
			want, wantErr := api.Msg{Kind: kind}, api.ErrMsgBody
			if d == 0 {
				want, wantErr = right, api.OK
			}
			wantDecoded(t, framed(kind, 0, ahead+count(len(record)+d)+string(record)), want, wantErr)
			inner := count(len(record)-2+d) + string(record[2:])
			wantDecoded(t, framed(kind, 0, ahead+count(len(record))+inner), want, wantErr)
		}
		two := string(record) + string(record)
		for _, body := range []string{"", "\x00", count(0), count(2) + "\x00\x00", count(0) + string(record), count(len(record)) + two, count(len(two)) + two,
			count(len(record)+1) + string(record) + "\x00", count(len(record)) + string(record) + "\x00"} {
			wantDecoded(t, framed(kind, 0, ahead+body), api.Msg{Kind: kind}, api.ErrMsgBody)
		}
	}
}

// The count of data goes up to the last byte, and no further, however great it says to be.
func TestDecodeDataCounts(t *testing.T) {
	for kind, ahead := range map[api.Kind]string{api.Rread: "", api.Twrite: strings.Repeat("\x00", 12)} {
		for _, n := range []uint32{0, 1, 3, 5, 6, 255, 260, 65535, 65540, 1 << 31, math.MaxUint32} {
			body := binary.LittleEndian.AppendUint32([]byte(ahead), n)
			wantDecoded(t, framed(kind, 5, string(body)+"abcd"), api.Msg{Kind: kind, Tag: 5}, api.ErrMsgBody)
		}
		body := binary.LittleEndian.AppendUint32([]byte(ahead), 4)
		wantDecoded(t, framed(kind, 5, string(body)+"abcd"), api.Msg{Kind: kind, Tag: 5, Data: []byte("abcd")}, api.OK)
	}
}

// Encode's errors, in their order: kind, argument, size.
func TestEncodeFirstError(t *testing.T) {
	m := api.Msg{Kind: api.Tattach, Uname: "\xff", Aname: strings.Repeat("a", 70000)}
	wantRefused(t, m, api.ErrMsgArg)
	m.Kind = api.Terror
	wantRefused(t, m, api.ErrMsgKind)
	m.Kind, m.Uname = api.Tattach, ""
	wantRefused(t, m, api.ErrMsgSize)
	m.Aname = ""
	if b, e := msg.Encode(m); e != api.OK || !bytes.Equal(b, encode(m)) {
		t.Errorf("Encode: %x, %d", b, e)
	}
}
