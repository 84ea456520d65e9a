package stat_test

import (
	"bytes"
	"math"
	"math/rand"
	"runtime"
	"slices"
	"strings"
	"testing"

	"verger/api"
	"verger/stat"
	"verger/wire"
)

// R1: nothing panics, whatever bytes, texts and numbers are handed in.
func TestNothingPanics(t *testing.T) {
	rnd := rand.New(rand.NewSource(12))
	for range 20000 {
		b := make([]byte, rnd.Intn(120))
		for i := range b {
			b[i] = byte(rnd.Intn(1 << (1 + rnd.Intn(8))))
		}
		stat.Decode(b)
		stat.Records(b)
		each(b)
		r := wire.NewReader(b)
		stat.TakeQid(r)
		stat.Take(r)
		stat.ParseMode(string(b))
		s := with(string(b), "", "", string(b))
		stat.Encode(s)
		stat.Pack(rnd.Intn(300)-100, s, s)
		stat.Over(s, s)
		stat.Touched(s, stat.Keep())
		stat.Mode(rnd.Uint32())
	}
	for _, most := range []int{math.MinInt, math.MinInt + 1, math.MaxInt - 1, math.MaxInt} {
		stat.Pack(most, api.Stat{}, stat.Keep())
	}
}

// R2: what is handed in is not written into, nor its spare room.
func TestHandedInStays(t *testing.T) {
	_, a := sample()
	_, c := full()
	room := joined(a, c, []byte("spare room"))
	was := slices.Clone(room)
	b := room[:len(a)+len(c)]
	stat.Decode(b[:52])
	stat.Records(b)
	each(b)
	stat.Take(wire.NewReader(b))
	if !bytes.Equal(room, was) {
		t.Errorf("bytes were written into: %x", room)
	}

	f, _ := full()
	list := []api.Stat{f, with("b", "", "", ""), with("\xff", "", "", ""), f}
	same := slices.Clone(list)
	stat.Pack(1000, list[:2]...)
	stat.Pack(70, list...)
	if !slices.Equal(list, same) {
		t.Errorf("records were written into: %+v", list)
	}
}

// R2, and the chapter: Each goes over the bytes as they were when it was asked for.
func TestEachKeepsACopy(t *testing.T) {
	s, b := sample()
	room := joined(b, b, b)
	seq := stat.Each(room[:104])
	clear(room)
	places := 0
	for at, got := range seq {
		if at != 52*places || got != s {
			t.Errorf("%+v at %d", got, at)
		}
		places++
	}
	if places != 2 {
		t.Errorf("%d records", places)
	}

	room = joined(b, b, b)
	places = 0
	for at, got := range stat.Each(room) {
		clear(room)
		if at != 52*places || got != s {
			t.Errorf("changed on the way: %+v at %d", got, at)
		}
		places++
	}
	if places != 3 {
		t.Errorf("changed on the way: %d records", places)
	}
}

// R2: it can be ranged over again and again, also within itself, and stops when the caller does.
func TestEachAgain(t *testing.T) {
	s, b := sample()
	f, c := full()
	want := []placed{{0, s}, {52, f}, {116, s}}
	seq := stat.Each(joined(b, c, b, []byte{1}))
	if seq == nil || stat.Each(nil) == nil {
		t.Fatal("Each: nil")
	}
	for stop := range 4 {
		var got []placed
		for at, x := range seq {
			if len(got) == stop {
				break
			}
			got = append(got, placed{at, x})
		}
		if !slices.Equal(got, want[:stop]) {
			t.Errorf("%d: %+v", stop, got)
		}
	}
	n := 0
	for range seq {
		for at, x := range seq {
			if (placed{at, x}) != want[n%3] {
				t.Errorf("within: %+v at %d", x, at)
			}
			n++
		}
	}
	if n != 9 {
		t.Errorf("a range within a range: %d records", n)
	}
}

// spoil changes all of a list, and its spare room.
func spoil[T any](l []T, with T) {
	l = l[:cap(l)]
	for i := range l {
		l[i] = with
	}
}

// R2: what comes out is new memory, spare room too.
func TestComesOutNew(t *testing.T) {
	s, b := sample()
	one, _ := stat.Encode(s)
	two, _ := stat.Encode(s)
	spoil(one, 0xee)
	if !bytes.Equal(two, b) {
		t.Errorf("two lists of Encode share memory: %x", two)
	}
	one, _ = stat.Pack(110, s, s)
	two, _ = stat.Pack(110, s, s)
	spoil(one, 0xee)
	if !bytes.Equal(two, joined(b, b)) {
		t.Errorf("two lists of Pack share memory: %x", two)
	}
	l, _ := stat.Records(joined(b, b))
	m, _ := stat.Records(joined(b, b))
	spoil(l, api.Stat{})
	if !slices.Equal(m, []api.Stat{s, s}) {
		t.Errorf("two lists of Records share memory: %+v", m)
	}
	if got, e := stat.Encode(s); e != api.OK || !bytes.Equal(got, b) {
		t.Errorf("Encode behind all that: %x, %d", got, e)
	}
	w := newWriter(t, 100)
	stat.Put(w, s)
	out, _ := w.Done()
	spoil(out, 0xee)
	if got, _ := w.Done(); !bytes.Equal(got, b) {
		t.Errorf("Put: %x", got)
	}
}

// R2: a record that was read stays when the bytes that it was read from change.
func TestReadStays(t *testing.T) {
	f, b := full()
	all := joined(b, b)
	one, _ := stat.Decode(all[:64])
	l, _ := stat.Records(all)
	clear(all)
	if one != f || !slices.Equal(l, []api.Stat{f, f}) {
		t.Errorf("%+v, %+v", one, l)
	}
}

// R3: the same calls are answered the same, whenever they are asked.
func TestSameAgain(t *testing.T) {
	f, b := full()
	seq := stat.Each(joined(b, b))
	for range 3 {
		if n := len(each(joined(b, b))); n != 2 {
			t.Errorf("Each: %d", n)
		}
		n := 0
		for range seq {
			stat.Touched(f, api.Stat{})
			stat.Decode(nil)
			n++
		}
		if n != 2 || stat.Keep() != keepAll() || stat.Mode(0755) != "----rwxr-xr-x" {
			t.Errorf("%d, Keep %+v, Mode %q", n, stat.Keep(), stat.Mode(0755))
		}
	}
}

// R4: nothing goes on when a call has answered.
func TestNoGoroutines(t *testing.T) {
	was := runtime.NumGoroutine()
	f, b := full()
	stat.Encode(f)
	stat.Pack(1000, f, f)
	stat.Records(joined(b, b, b))
	for range stat.Each(joined(b, b, b)) {
		break
	}
	stat.ParseMode(strings.Repeat("-", 13))
	if n := runtime.NumGoroutine(); n > was {
		t.Errorf("%d goroutines more", n-was)
	}
}
