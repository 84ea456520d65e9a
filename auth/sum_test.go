package auth_test

import (
	"math"
	"math/bits"
	"math/rand"
	"slices"
	"strings"
	"testing"

	"verger/auth"
)

func wantSum(t *testing.T, want uint64, key string, l ...uint64) {
	t.Helper()
	if got := auth.Sum(key, l...); got != want {
		t.Errorf("Sum(%s, %x): %016x, want %016x", short(key), l, got, want)
	}
}

// The chapter's example 1.
func TestSumExamples(t *testing.T) {
	wantSum(t, 0x95852c95d9fc137e, "")
	wantSum(t, 0xd0ab12f9db9fe832, "a")
	wantSum(t, 0x689192d307319b91, "", 0)
	wantSum(t, 0xa2ad0b90957f16e8, "key1", 1, 2)
	wantOurs(t, 0x1bf16d9b7319f9e5, 7, 1, 1)
	wantOurs(t, 0xcae6c39017b622c6, 7, 1, 2)
}

// Keys are bytes: each of them, valid text or not, short and long.
func TestSumKeys(t *testing.T) {
	for b := range 256 {
		s := string([]byte{byte(b)})
		for _, key := range []string{s, s + s, "a" + s, s + "a", "\xc3" + s, strings.Repeat(s, 33), strings.Repeat(s, 1000)} {
			wantSum(t, sumOf(key), key)
			wantSum(t, sumOf(key, uint64(b)), key, uint64(b))
		}
	}
	for _, key := range []string{"é", "😀", "\u2028", "\ufffd", "\xed\xa0\x80", "verger1 ", "key1\n"} {
		wantSum(t, sumOf(key), key)
	}
}

// Numbers are whole ones of 64 bits, and there may be none or many.
func TestSumNumbers(t *testing.T) {
	for _, n := range []uint64{0, 1, 2, 255, 256, 1 << 32, 1<<63 - 1, 1 << 63, math.MaxUint64 - 1, math.MaxUint64} {
		for _, l := range [][]uint64{{n}, {n, n}, {0, n}, {n, 0}, {n, n, n, n, n}, slices.Repeat([]uint64{n}, 300)} {
			wantSum(t, sumOf("", l...), "", l...)
			wantSum(t, sumOf("k", l...), "k", l...)
		}
	}
	wantSum(t, sumOf("k"), "k", nil...)
	wantSum(t, sumOf("k"), "k", []uint64{}...)
}

func TestSumMixed(t *testing.T) {
	rnd := rand.New(rand.NewSource(1))
	for range 5000 {
		key, l := someBytes(rnd, 40), make([]uint64, rnd.Intn(8))
		for i := range l {
			l[i] = someNumber(rnd)
		}
		wantSum(t, sumOf(key, l...), key, l...)
	}
}

// Which bytes are the key's and which numbers the list's, and how many, all goes into the sum.
func TestSumParts(t *testing.T) {
	from := map[uint64]string{}
	add := func(s string, sum uint64) {
		if other, ok := from[sum]; ok {
			t.Errorf("%s and %s: one sum, %016x", other, s, sum)
		}
		from[sum] = s
	}
	keys := []string{"", "\x00", "\x00\x00", "a", "aa", "aaa", "b", "ab", "ba", "\xff", "a\x00"}
	for _, key := range keys {
		add(short(key), auth.Sum(key))
		for _, a := range []uint64{0, 1, 2, 98, 99, 256, math.MaxUint64} {
			add(short(key)+" and 1 number", auth.Sum(key, a))
			for _, b := range []uint64{0, 1, 2, 98, 99, 256, math.MaxUint64} {
				add(short(key)+" and 2 numbers", auth.Sum(key, a, b))
			}
		}
	}
}

// undone is what stands ahead of a step by n that came to h.
func undone(h, n uint64) uint64 {
	h = h ^ h>>29 ^ h>>58
	inverse := uint64(1) // of the factor: each round makes twice as many of its bits right
	for range 6 {
		inverse *= 2 - 0xa3c28bd6e1f7406d*inverse
	}
	return h*inverse ^ n
}

// Each step can be undone: from a sum and all that went into it but one number, that one comes out again.
func TestSumUndone(t *testing.T) {
	rnd := rand.New(rand.NewSource(2))
	for range 5000 {
		key, l := someBytes(rnd, 20), make([]uint64, 1+rnd.Intn(6))
		for i := range l {
			l[i] = someNumber(rnd)
		}
		at := rnd.Intn(len(l))
		h := undone(auth.Sum(key, l...), uint64(len(l)))
		for _, n := range slices.Backward(l[at+1:]) {
			h = undone(h, n)
		}
		ahead := undone(auth.Sum(key, l[:at]...), uint64(at))
		if got := undone(h, 0) ^ ahead; got != l[at] {
			t.Fatalf("Sum(%q, %x): number %d comes out as %x", key, l, at, got)
		}
	}
}

// Two sums that differ in one number alone are not the same; not even in the one bit that is easiest to lose.
func TestSumApart(t *testing.T) {
	rnd := rand.New(rand.NewSource(3))
	for range 200 {
		l := []uint64{someNumber(rnd), someNumber(rnd), someNumber(rnd)}
		was, key := slices.Clone(l), someBytes(rnd, 5)
		for i := range l {
			for bit := range bits.UintSize {
				l[i] ^= 1 << bit
				if auth.Sum(key, l...) == auth.Sum(key, was...) {
					t.Fatalf("Sum(%q, %x) is that of %x", key, l, was)
				}
				l[i] = was[i]
			}
		}
	}
}

func wantOurs(t *testing.T, want, seed uint64, conn, nth int) {
	t.Helper()
	if got := auth.Ours(seed, conn, nth); got != want {
		t.Errorf("Ours(%x, %d, %d): %016x, want %016x", seed, conn, nth, got, want)
	}
}

// Connections and counts below 0 are meant modulo 2 to the 64.
func TestOurs(t *testing.T) {
	as := map[int]uint64{0: 0, 1: 1, 2: 2, 65536: 65536, -1: 0xffffffffffffffff, -2: 0xfffffffffffffffe, math.MaxInt64: 0x7fffffffffffffff, math.MinInt64: 0x8000000000000000, math.MinInt32: 0xffffffff80000000, math.MaxUint32: 0xffffffff}
	for _, seed := range []uint64{0, 1, 7, 1 << 63, math.MaxUint64} {
		for conn, c := range as {
			for nth, n := range as {
				wantOurs(t, sumOf("", seed, c, n), seed, conn, nth)
				wantSum(t, auth.Ours(seed, conn, nth), "", seed, c, n)
			}
		}
	}
}

// No two of one connection's numbers are the same.
func TestOursApart(t *testing.T) {
	for _, seed := range []uint64{0, 7, math.MaxUint64} {
		for _, conn := range []int{1, 2, 16, 1000} {
			nths := map[uint64]int{}
			for nth := range 20000 {
				ours := auth.Ours(seed, conn, nth)
				if other, ok := nths[ours]; ok {
					t.Fatalf("Ours(%x, %d, ..) of %d and %d: %016x", seed, conn, other, nth, ours)
				}
				nths[ours] = nth
			}
		}
	}
}
