package msg_test

import (
	"bytes"
	"math/rand"
	"reflect"
	"slices"
	"testing"

	"verger/api"
	"verger/msg"
)

// There and back: of a message that may be, Decode of Encode, and Parse of Text, is Clean of it.
func TestThereAndBack(t *testing.T) {
	rnd := rand.New(rand.NewSource(6))
	for _, m := range someMsgs(rnd, 100) {
		c := msg.Clean(m)
		frame, e := msg.Encode(m)
		if e != api.OK || len(frame) != msg.Size(m) {
			t.Fatalf("Encode(%s): %d bytes, %d; Size %d", short(m), len(frame), e, msg.Size(m))
		}
		if back, e := msg.Decode(frame); e != api.OK || !same(back, c) {
			t.Fatalf("Decode of Encode: %s, %d; want %s", short(back), e, short(c))
		}
		if back, at, e := msg.Parse(msg.Text(m)); e != api.OK || at != 0 || !same(back, c) {
			t.Fatalf("Parse of Text: %s, %d, %d; want %s", short(back), at, e, short(c))
		}
	}
}

// What Decode takes, Encode writes just so again; what Parse takes, Text writes just so again.
func TestBackAndThere(t *testing.T) {
	rnd := rand.New(rand.NewSource(7))
	frames, lines := 0, 0
	for _, m := range someMsgs(rnd, 200) {
		frame := encode(m)
		frame[5+rnd.Intn(len(frame)-5)] = byte(rnd.Intn(256))
		if got, e := msg.Decode(frame); e == api.OK {
			frames++
			if again, e := msg.Encode(got); e != api.OK || !bytes.Equal(again, frame) {
				t.Fatalf("Encode of what Decode(%x) tells: %x, %d", frame, again, e)
			}
		}
		line := []byte(text(m))
		line[rnd.Intn(len(line))] = line[rnd.Intn(len(line))]
		if got, _, e := msg.Parse(string(line)); e == api.OK {
			lines++
			if again := msg.Text(got); again != string(line) {
				t.Fatalf("Text of what Parse(%q) tells: %q", line, again)
			}
		}
	}
	if frames < 500 || lines < 500 {
		t.Errorf("%d frames, %d lines were taken", frames, lines)
	}
}

// Two messages that may be have one frame, and one line, just if Clean makes them the same.
func TestOneFrameEach(t *testing.T) {
	rnd := rand.New(rand.NewSource(8))
	for _, r := range chapterKinds() {
		m := someMsg(rnd, r.kind)
		frame, line := encode(m), text(m)
		v := reflect.ValueOf(m)
		for i := range v.NumField() {
			field := v.Type().Field(i).Name
			other := m
			for value(other, field) == nil || reflect.DeepEqual(value(other, field), value(m, field)) {
				slot(&other, field).Set(reflect.ValueOf(value(someMsg(rnd, r.kind), field)))
				if field == "Kind" {
					other.Kind = chapterKinds()[rnd.Intn(27)].kind
				}
			}
			used := field == "Kind" || field == "Tag" || slices.Contains(r.uses, field)
			b, e := msg.Encode(other)
			if e != api.OK || bytes.Equal(b, frame) == used || (msg.Text(other) == line) == used || same(msg.Clean(other), msg.Clean(m)) == used {
				t.Errorf("%s with another %s: %s; was %s", r.name, field, short(other), short(m))
			}
		}
	}
}

// No frame that is taken is a beginning of another one; one that is refused with ErrMsgBody is refused with anything behind it, too, unless its size is turned.
func TestNothingBehind(t *testing.T) {
	rnd := rand.New(rand.NewSource(9))
	for _, m := range someMsgs(rnd, 20) {
		whole := encode(m)
		if len(whole) > 7 {
			refused := resized(slices.Clone(whole[:len(whole)-1]))
			wantDecoded(t, refused, api.Msg{Kind: m.Kind, Tag: m.Tag}, api.ErrMsgBody)
			for _, tail := range []string{"\x00", "\x01\x02", string(whole[len(whole)-1:]), string(whole)} {
				wantDecoded(t, append(slices.Clone(refused), tail...), api.Msg{}, api.ErrMsgSize)
			}
			wantDecoded(t, resized(append(refused, whole[len(whole)-1])), clean(m), api.OK)
		}
		for _, tail := range []string{"\x00", "\x07\x00\x00\x00\x6d\x00\x00", string(whole)} {
			wantDecoded(t, append(slices.Clone(whole), tail...), api.Msg{}, api.ErrMsgSize)
		}
	}
}

// The chapter's examples, by their numbers.

func TestExample1(t *testing.T) {
	m := api.Msg{Kind: api.Tversion, Tag: 65535, Msize: 8192, Version: "9P2000"}
	frame := []byte{0x13, 0, 0, 0, 0x64, 0xff, 0xff, 0x00, 0x20, 0, 0, 0x06, 0, 0x39, 0x50, 0x32, 0x30, 0x30, 0x30}
	wantEncoded(t, m, frame, `Tversion 65535 msize=8192 version="9P2000"`)
	wantDecoded(t, frame, m, api.OK)
	wantParsed(t, `Tversion 65535 msize=8192 version="9P2000"`, m)
}

func TestExample2(t *testing.T) {
	m := api.Msg{Kind: api.Twalk, Tag: 3, Fid: 1, Newfid: 2, Names: []string{"a", ".."}}
	frame := []byte{0x18, 0, 0, 0, 0x6e, 3, 0, 1, 0, 0, 0, 2, 0, 0, 0, 2, 0, 1, 0, 0x61, 2, 0, 0x2e, 0x2e}
	wantEncoded(t, m, frame, `Twalk 3 fid=1 newfid=2 names=["a" ".."]`)
	wantDecoded(t, frame, m, api.OK)
	m.Names = nil
	frame = []byte{0x11, 0, 0, 0, 0x6e, 3, 0, 1, 0, 0, 0, 2, 0, 0, 0, 0, 0}
	wantEncoded(t, m, frame, "Twalk 3 fid=1 newfid=2 names=[]")
	wantDecoded(t, frame, m, api.OK)
	m.Names = []string{}
	wantEncoded(t, m, frame, "Twalk 3 fid=1 newfid=2 names=[]")
}

func TestExample3(t *testing.T) {
	m := api.Msg{Kind: api.Rread, Tag: 4, Data: []byte{0x68, 0x69}}
	wantEncoded(t, m, []byte{0x0d, 0, 0, 0, 0x75, 4, 0, 2, 0, 0, 0, 0x68, 0x69}, "Rread 4 data=6869")
	wantDecoded(t, []byte{0x0d, 0, 0, 0, 0x75, 4, 0, 3, 0, 0, 0, 0x68, 0x69}, api.Msg{Kind: 117, Tag: 4}, api.ErrMsgBody)
}

func TestExample4(t *testing.T) {
	wantDecoded(t, []byte{7, 0, 0, 0, 0x6a, 1, 0}, api.Msg{Kind: 106, Tag: 1}, api.ErrMsgKind)
	wantDecoded(t, []byte{8, 0, 0, 0, 0x78, 1, 0}, api.Msg{}, api.ErrMsgSize)
}

func TestExample5(t *testing.T) {
	wantWrongAt(t, "Tclunk 07 fid=1", 7)
	wantWrongAt(t, "Tclunk 7 fid=4294967296", 13)
	wantWrongAt(t, "Tclunk 7  fid=1", 8)
	wantWrongAt(t, "Tclunk 7 fid=1 ", 14)
	wantWrongAt(t, "Terror 1", 0)
	wantWrongAt(t, "Rwalk 1 qids=[0.0.1 ]", 20)
}

func TestExample6(t *testing.T) {
	wantParsed(t, `Rerror 9 ename="a\x0a\"b"`, api.Msg{Kind: api.Rerror, Tag: 9, Ename: "a\n\"b"})
	wantWrongAt(t, `Rerror 9 ename="\x41"`, 15)
}

// The chapter's errors have these numbers.
func TestErrors(t *testing.T) {
	for e, want := range map[api.Errno]int{api.ErrMsgArg: 30, api.ErrMsgSize: 31, api.ErrMsgKind: 32, api.ErrMsgBody: 33, api.ErrMsgText: 34} {
		if int(e) != want {
			t.Errorf("error %d: %d", want, e)
		}
	}
}
