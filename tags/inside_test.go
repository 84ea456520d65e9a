package tags

import (
	"math/rand"
	"testing"

	"verger/api"
)

// wantKept: of what has no tag nothing is kept, and each tag is that of what has it.
func wantKept(t *testing.T, l *Table) {
	t.Helper()
	if len(l.tags) != len(l.requests) {
		t.Fatalf("%v, %v", l.tags, l.requests)
	}
	for tag, id := range l.tags {
		if r, there := l.requests[id]; !there || r.tag != tag || r.state == 0 {
			t.Fatalf("the tag %d is that of %d: %+v, %v", tag, id, r, there)
		}
	}
}

// A table keeps what its tags and its row need, behind each call, and no more; what is asked of it makes it keep nothing.
func TestNothingIsKept(t *testing.T) {
	rnd := rand.New(rand.NewSource(9))
	for range 100 {
		l, _ := New(5)
		for id := 1; id < 200; id++ {
			other := id - rnd.Intn(8)
			switch rnd.Intn(8) {
			case 0:
				l.Flush(uint16(rnd.Intn(6)), uint16(rnd.Intn(6)), id)
			case 1, 2:
				l.Decide(other)
			case 3, 4:
				l.Reply(other, api.Msg{})
			case 5:
				l.Next()
			default:
				l.Begin(uint16(rnd.Intn(6)), id)
			}
			l.Rows()
			l.Waiting()
			wantKept(t, l)
		}
		l.Reset()
		if len(l.requests)+len(l.tags)+len(l.row) > 0 {
			t.Fatalf("%v, %v, %v", l.requests, l.tags, l.row)
		}
	}
}

// What was written is not kept where it stood in the row.
func TestWrittenIsNotKept(t *testing.T) {
	l, _ := New(1)
	for range 3 {
		l.Say(5, api.Msg{Tag: 3, Names: []string{"a"}, Qids: []api.Qid{{Path: 1}}, Data: []byte("b")})
	}
	row := l.row
	l.Next()
	l.Next()
	for i, r := range row[:2] {
		if r.id != 0 || r.m.Tag != 0 || len(r.m.Names)+len(r.m.Qids)+len(r.m.Data) > 0 {
			t.Errorf("%d: %+v", i, r)
		}
	}
	if len(l.row) != 1 || l.row[0].id != 5 || string(l.row[0].m.Data) != "b" {
		t.Errorf("%+v", l.row)
	}
}
