package msg_test

import (
	"math/rand"
	"reflect"
	"strings"
	"testing"

	"verger/api"
	"verger/msg"
)

// The twenty-seven kinds have these numbers in package api, and no others have a name.
func TestNames(t *testing.T) {
	named := map[api.Kind]string{}
	for _, r := range chapterKinds() {
		named[r.kind] = r.name
	}
	if len(named) != 27 {
		t.Fatalf("%d kinds", len(named))
	}
	for n := range 256 {
		kind := api.Kind(n)
		name := msg.Name(kind)
		if name != named[kind] {
			t.Errorf("Name(%d): %q, want %q", n, name, named[kind])
		}
		if name == "" {
			continue
		}
		if k, ok := msg.Kind(name); k != kind || !ok {
			t.Errorf("Kind(%q): %d, %v", name, k, ok)
		}
	}
	if api.Tversion != 100 || api.Terror != 106 || api.Rwstat != 127 {
		t.Errorf("Tversion %d, Terror %d, Rwstat %d", api.Tversion, api.Terror, api.Rwstat)
	}
}

func TestNoSuchName(t *testing.T) {
	wrong := []string{"", "T", "R", "Terror", "tversion", "TVERSION", "version", "Tversio", "Tversions", " Tversion", "Tversion ", "Tversion\x00", "100", "Rwstat\n", "\xff"}
	for _, r := range chapterKinds() {
		wrong = append(wrong, strings.ToLower(r.name), r.name+"x", r.name[1:], r.name[:len(r.name)-1], r.name+r.name)
	}
	for _, name := range wrong {
		if k, ok := msg.Kind(name); k != 0 || ok {
			t.Errorf("Kind(%q): %d, %v", name, k, ok)
		}
	}
}

// A request's answer is the kind that is one more; nothing else has one.
func TestAnswer(t *testing.T) {
	answers := map[api.Kind]api.Kind{100: 101, 102: 103, 104: 105, 108: 109, 110: 111, 112: 113, 114: 115, 116: 117, 118: 119, 120: 121, 122: 123, 124: 125, 126: 127}
	for n := range 256 {
		want, wantOK := answers[api.Kind(n)]
		if k, ok := msg.Answer(api.Kind(n)); k != want || ok != wantOK {
			t.Errorf("Answer(%d): %d, %v; want %d, %v", n, k, ok, want, wantOK)
		}
	}
}

// wantClean says that Clean leaves just what the kind uses, and changes nothing of the message.
func wantClean(t *testing.T, m api.Msg) {
	t.Helper()
	was := m
	got := msg.Clean(m)
	if want := clean(m); !same(got, want) {
		t.Errorf("Clean(%s): %s, want %s", short(m), short(got), short(want))
	}
	if !reflect.DeepEqual(m, was) {
		t.Errorf("Clean changed the message: %s, was %s", short(m), short(was))
	}
	if again := msg.Clean(got); !same(again, got) {
		t.Errorf("Clean of %s: %s", short(got), short(again))
	}
}

func TestClean(t *testing.T) {
	rnd := rand.New(rand.NewSource(1))
	for n := range 256 {
		for range 20 {
			wantClean(t, someMsg(rnd, api.Kind(n)))
		}
		wantClean(t, api.Msg{Kind: api.Kind(n)})
		wantClean(t, api.Msg{Kind: api.Kind(n), Tag: 65535})
	}
}

// Of a kind that is none all but Kind and Tag goes.
func TestCleanOfNoKind(t *testing.T) {
	m := full()
	for _, kind := range []api.Kind{0, 99, 106, 128, 255} {
		m.Kind = kind
		if got := msg.Clean(m); !same(got, api.Msg{Kind: kind, Tag: 0x0807}) {
			t.Errorf("Clean of kind %d: %+v", kind, got)
		}
	}
}

// What stands in the fields that are used stays, also what may not be.
func TestCleanKeepsAnything(t *testing.T) {
	for _, m := range mayNotBe() {
		wantClean(t, m)
	}
	for _, m := range []api.Msg{
		{Kind: api.Rread, Data: make([]byte, 70000)},
		{Kind: api.Rerror, Ename: strings.Repeat("e", 70000)},
		{Kind: api.Twalk, Names: make([]string, 100)},
		{Kind: api.Rwalk, Qids: make([]api.Qid, 100)},
	} {
		wantClean(t, m)
	}
}
