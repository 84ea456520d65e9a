package frame_test

import (
	"bytes"
	"math/rand"
	"testing"

	"verger/frame"
)

func TestAll(t *testing.T) {
	one, two, three := framed(7, 1), framed(100, 2), framed(512, 3)
	wantAll(t, nil, 512)
	wantAll(t, []byte{}, 512)
	wantAll(t, one, 512, one)
	wantAll(t, joined(one, two, three), 512, one, two, three)
	wantAll(t, joined(three, one, one, two), 512, three, one, one, two)
	wantAll(t, framed(65536, 4), 65536, framed(65536, 4))
	wantAll(t, joined(one, one), 7, one, one)
}

// It ends at the first frame that is not there whole.
func TestAllEndsInAFrame(t *testing.T) {
	one, two := framed(7, 1), framed(20, 2)
	for have := range two {
		wantAll(t, two[:have], 512)
		wantAll(t, joined(one, two[:have]), 512, one)
	}
}

// It ends at the first frame whose size is not right, whatever stands behind it.
func TestAllEndsAtAWrongSize(t *testing.T) {
	one := framed(7, 1)
	for _, size := range []uint32{0, 1, 2, 3, 4, 5, 6, 21, 22, 512, 1<<24 + 7, 1<<32 - 1} {
		wantAll(t, joined(said(size), one, one), 20)
		wantAll(t, joined(one, said(size), one, one), 20, one)
		wantAll(t, joined(one, said(size)), 20, one)
	}
	wantAll(t, joined(one, framed(20, 2), framed(21, 3), one), 20, one, framed(20, 2))
}

// It goes through none, if msize is no limit.
func TestAllOfNoLimit(t *testing.T) {
	for _, n := range notLimits() {
		wantAll(t, joined(framed(7, 1), framed(512, 2)), n)
		wantAll(t, said(n), n)
		if n < 100 && n >= 4 {
			wantAll(t, framed(int(n), 1), n)
		}
		if frame.All(nil, n) == nil {
			t.Errorf("All of the limit %d: nil", n)
		}
	}
}

// It tells what the plain model tells, of all sorts of streams.
func TestAllAsTheModel(t *testing.T) {
	rnd := rand.New(rand.NewSource(1))
	told := 0
	for range 5000 {
		limit := limits()[rnd.Intn(len(limits()))]
		b := someStream(rnd, limit)
		want := all(b, limit)
		wantAll(t, b, limit, want...)
		told += len(want)
	}
	if told < 5000 {
		t.Errorf("%d frames in all", told)
	}
}

// It may be left early, and ranged over again, each time from the front on.
func TestAllAgain(t *testing.T) {
	want := [][]byte{framed(7, 1), framed(8, 2), framed(9, 3)}
	seq := frame.All(joined(joined(want...), []byte{0}), 512)
	for stop := range 4 {
		var got [][]byte
		for f := range seq {
			if len(got) == stop {
				break
			}
			got = append(got, f)
		}
		if !sameFrames(got, want[:stop]) {
			t.Errorf("left behind %d: %x", stop, got)
		}
	}
	if got := collected(seq); !sameFrames(got, want) {
		t.Errorf("again: %x", got)
	}
}

// When the caller has stopped, it is told nothing more.
func TestAllStops(t *testing.T) {
	seq := frame.All(joined(framed(7, 1), framed(7, 2), framed(7, 3)), 512)
	for stop := 1; stop <= 3; stop++ {
		told := 0
		seq(func([]byte) bool {
			told++
			return told < stop
		})
		if told != stop {
			t.Errorf("stopped at %d: told %d", stop, told)
		}
	}
}

// It can be ranged over within a range of itself.
func TestAllWithin(t *testing.T) {
	want := [][]byte{framed(7, 1), framed(8, 2), framed(9, 3)}
	seq := frame.All(joined(want...), 512)
	n := 0
	for a := range seq {
		for b := range seq {
			if !bytes.Equal(a, want[n/3]) || !bytes.Equal(b, want[n%3]) {
				t.Errorf("%d: %x, %x", n, a, b)
			}
			n++
		}
	}
	if n != 9 {
		t.Errorf("a range within a range: %d frames", n)
	}
}

// It goes by the bytes that b had when All was called.
func TestAllKeepsACopy(t *testing.T) {
	want := [][]byte{framed(7, 1), framed(8, 2), framed(9, 3)}
	b := joined(want...)
	seq := frame.All(b, 512)
	clear(b)
	if got := collected(seq); !sameFrames(got, want) {
		t.Errorf("changed behind the call: %x", got)
	}
	b = joined(want...)
	var got [][]byte
	for f := range frame.All(b, 512) {
		clear(b)
		got = append(got, f)
	}
	if !sameFrames(got, want) {
		t.Errorf("changed on the way: %x", got)
	}
}
