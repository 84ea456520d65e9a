package msg_test

import (
	"bytes"
	"math/rand"
	"reflect"
	"runtime"
	"slices"
	"strings"
	"testing"

	"verger/api"
	"verger/msg"
)

// R1: nothing panics, whatever bytes, texts and messages are handed in.
func TestNothingPanics(t *testing.T) {
	rnd := rand.New(rand.NewSource(10))
	for range 20000 {
		b := make([]byte, rnd.Intn(80))
		for i := range b {
			b[i] = byte(rnd.Intn(1 << (1 + rnd.Intn(8))))
		}
		msg.Decode(b)
		msg.Decode(framed(api.Kind(100+rnd.Intn(28)), 1, string(b)))
		s := string(b)
		msg.Parse(s)
		msg.Parse(chapterKinds()[rnd.Intn(27)].name + " 1 " + s)
		msg.Kind(s)
		m := api.Msg{Kind: api.Kind(rnd.Intn(256)), Version: s, Uname: s, Aname: s, Ename: s, Names: slices.Repeat([]string{s}, rnd.Intn(20)),
			Qids: make([]api.Qid, rnd.Intn(20)), Name: s, Data: b, Stat: api.Stat{Name: s, Uid: s, Gid: s, Muid: s}}
		msg.Encode(m)
		msg.Text(m)
		msg.Clean(m)
	}
}

// R1: with an error every other result is nothing, also of a line of which much was read.
func TestNothingBesideErrors(t *testing.T) {
	m, at, e := msg.Parse(`Twstat 5 fid=3 stat={type=1 dev=2 qid=3.4.5 mode=6 atime=7 mtime=8 length=9 name="n" uid="u" gid="g" muid="m"} `)
	if !reflect.DeepEqual(m, api.Msg{}) || at != 110 || e != api.ErrMsgText {
		t.Errorf("Parse: %s, %d, %d", short(m), at, e)
	}
	frame, line := encode(api.Msg{Kind: api.Twalk, Tag: 7, Fid: 1, Newfid: 2, Names: []string{"a", "b"}}), `Rwalk 1 qids=[1.2.3 4.5.6`
	if m, e := msg.Decode(frame[:len(frame)-1]); !reflect.DeepEqual(m, api.Msg{}) || e != api.ErrMsgSize {
		t.Errorf("Decode: %s, %d", short(m), e)
	}
	if m, e := msg.Decode(resized(frame[:len(frame)-1])); !reflect.DeepEqual(m, api.Msg{Kind: api.Twalk, Tag: 7}) || e != api.ErrMsgBody {
		t.Errorf("Decode: %s, %d", short(m), e)
	}
	if m, at, e := msg.Parse(line); !reflect.DeepEqual(m, api.Msg{}) || at != len(line) || e != api.ErrMsgText {
		t.Errorf("Parse: %s, %d, %d", short(m), at, e)
	}
}

// roomy is the full message with spare room behind its lists, and what says whether anything of them was written into.
func roomy() (api.Msg, func() bool) {
	m := full()
	names := append(slices.Clone(m.Names), "spare", "room")
	qids := append(slices.Clone(m.Qids), api.Qid{Path: 77}, api.Qid{Path: 78})
	data := append(slices.Clone(m.Data), "spare room"...)
	wasNames, wasQids, wasData := slices.Clone(names), slices.Clone(qids), slices.Clone(data)
	m.Names, m.Qids, m.Data = names[:3], qids[:2], data[:4]
	return m, func() bool {
		return slices.Equal(names, wasNames) && slices.Equal(qids, wasQids) && bytes.Equal(data, wasData)
	}
}

// R2: nothing that is handed in is written into, nor its spare room.
func TestHandedInStays(t *testing.T) {
	for _, r := range chapterKinds() {
		m, stays := roomy()
		m.Kind = r.kind
		msg.Encode(m)
		msg.Size(m)
		msg.Text(m)
		c := msg.Clean(m)
		_ = append(c.Names, "more")
		_ = append(c.Qids, api.Qid{})
		_ = append(c.Data, 1)
		if !stays() {
			t.Errorf("%s: the message was written into", r.name)
		}
		_, frame, _ := named(r)
		room := append(slices.Clone(frame), "spare room"...)
		was := slices.Clone(room)
		got, _ := msg.Decode(room[:len(frame)])
		_ = append(got.Data, 1)
		if !bytes.Equal(room, was) {
			t.Errorf("%s: the frame was written into: %x", r.name, room)
		}
	}
}

// spoil changes all of a message's lists, and their spare room.
func spoil(m api.Msg) {
	spoilList(m.Names, "spoilt")
	spoilList(m.Qids, api.Qid{Kind: 0xee})
	spoilList(m.Data, 0xee)
}

func spoilList[V any](l []V, with V) {
	l = l[:cap(l)]
	for i := range l {
		l[i] = with
	}
}

// R2: what comes out is new memory, spare room too; it may be changed, and so may what was handed in.
func TestComesOutNew(t *testing.T) {
	for _, r := range chapterKinds() {
		m, stays := roomy()
		m.Kind = r.kind
		_, frame, line := named(r)

		one, _ := msg.Encode(m)
		two, _ := msg.Encode(m)
		spoilList(one, 0xee)
		if !bytes.Equal(two, frame) || !stays() {
			t.Errorf("%s: two frames share memory, or one with the message", r.name)
		}

		a, _ := msg.Decode(frame)
		b, _ := msg.Decode(frame)
		spoil(a)
		if !same(b, clean(m)) || !bytes.Equal(frame, two) {
			t.Errorf("%s: two messages share memory, or one with its frame", r.name)
		}
		spoilList(frame, 0xee)
		if !same(b, clean(m)) {
			t.Errorf("%s: a message changes with its frame", r.name)
		}

		a, b = msg.Clean(m), msg.Clean(m)
		spoil(a)
		if !same(b, clean(m)) || !stays() {
			t.Errorf("%s: what Clean tells shares memory", r.name)
		}
		spoil(m)
		if !same(b, clean(func() api.Msg { f := full(); f.Kind = r.kind; return f }())) {
			t.Errorf("%s: what Clean tells changes with the message", r.name)
		}

		a, _, _ = msg.Parse(line)
		b, _, _ = msg.Parse(line)
		spoil(a)
		if !same(b, func() api.Msg { f := full(); f.Kind = r.kind; return clean(f) }()) {
			t.Errorf("%s: two messages of a line share memory", r.name)
		}
	}
}

// R2: a list that is handed in may be nil or not, where it has nothing in it.
func TestNilIsEmpty(t *testing.T) {
	for _, r := range chapterKinds() {
		none := api.Msg{Kind: r.kind}
		empty := api.Msg{Kind: r.kind, Names: []string{}, Qids: []api.Qid{}, Data: []byte{}}
		wantEncoded(t, empty, encode(none), text(none))
		wantEncoded(t, none, encode(none), text(none))
	}
}

// R3: the same calls are answered the same, whenever they are asked.
func TestSameAgain(t *testing.T) {
	rnd := rand.New(rand.NewSource(11))
	for _, m := range someMsgs(rnd, 3) {
		frame, line := encode(m), text(m)
		for range 3 {
			wantEncoded(t, m, frame, line)
			msg.Parse(line[:len(line)-1])
			wantDecoded(t, frame, clean(m), api.OK)
			msg.Decode(frame[:len(frame)-1])
			wantParsed(t, line, clean(m))
		}
	}
}

// R4: nothing goes on when a call has answered.
func TestNoGoroutines(t *testing.T) {
	was := runtime.NumGoroutine()
	for _, r := range chapterKinds() {
		m, frame, line := named(r)
		msg.Encode(m)
		msg.Decode(frame)
		msg.Parse(line)
		msg.Parse(line + " ")
		msg.Text(m)
	}
	if n := runtime.NumGoroutine(); n > was {
		t.Errorf("%d goroutines more", n-was)
	}
}

// R5: an error that is answered is one of the chapter's.
func TestErrorsOfTheChapter(t *testing.T) {
	rnd := rand.New(rand.NewSource(12))
	for _, m := range someMsgs(rnd, 30) {
		frame, line := encode(m), []byte(text(m))
		frame[rnd.Intn(len(frame))] ^= byte(1 << rnd.Intn(8))
		line[rnd.Intn(len(line))] ^= byte(1 << rnd.Intn(8))
		if _, e := msg.Decode(frame); e != api.OK && e != api.ErrMsgSize && e != api.ErrMsgKind && e != api.ErrMsgBody {
			t.Errorf("Decode(%x): %d", frame, e)
		}
		if _, _, e := msg.Parse(string(line)); e != api.OK && e != api.ErrMsgText {
			t.Errorf("Parse(%q): %d", line, e)
		}
		m.Name, m.Ename = strings.Repeat("a", rnd.Intn(80000)), string(line)
		if _, e := msg.Encode(m); e != api.OK && e != api.ErrMsgArg && e != api.ErrMsgSize {
			t.Errorf("Encode(%s): %d", short(m), e)
		}
	}
}
