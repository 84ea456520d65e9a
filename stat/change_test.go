package stat_test

import (
	"math/rand"
	"reflect"
	"testing"

	"verger/api"
	"verger/stat"
)

// touched is the fields in which want has neither what Keep has, nor what have has.
func touched(want, have api.Stat) api.Fields {
	var set api.Fields
	keep := flat(keepAll())
	for i, v := range flat(want) {
		if v != keep[i] && v != flat(have)[i] {
			set |= 1 << i
		}
	}
	return set
}

func keepAll() api.Stat {
	return api.Stat{Type: 0xffff, Dev: 0xffffffff, Qid: api.Qid{Kind: 0xff, Vers: 0xffffffff, Path: 0xffffffffffffffff},
		Mode: 0xffffffff, Atime: 0xffffffff, Mtime: 0xffffffff, Length: 0xffffffffffffffff}
}

// over is have, with the fields of a set as they are in want.
func over(set api.Fields, want, have api.Stat) api.Stat {
	from, to := slots(&want), slots(&have)
	for i := range to {
		if set&(1<<i) != 0 {
			to[i].Set(from[i])
		}
	}
	return have
}

// wantTouched says which fields are touched, and that these alone go over.
func wantTouched(t *testing.T, want, have api.Stat, set api.Fields) {
	t.Helper()
	if f := stat.Touched(want, have); f != set {
		t.Errorf("Touched(%+v, %+v): %013b, want %013b", want, have, f, set)
	}
	if got := stat.Over(want, have); got != over(set, want, have) {
		t.Errorf("Over(%+v, %+v): %+v", want, have, got)
	}
}

func TestKeep(t *testing.T) {
	if k := stat.Keep(); k != keepAll() {
		t.Errorf("Keep: %+v", k)
	}
}

// The set of a record's fields has a bit for each, in the record's order.
func TestFieldBits(t *testing.T) {
	for i, f := range []api.Fields{api.FieldType, api.FieldDev, api.FieldQidKind, api.FieldQidVers, api.FieldQidPath, api.FieldMode, api.FieldAtime,
		api.FieldMtime, api.FieldLength, api.FieldName, api.FieldUid, api.FieldGid, api.FieldMuid} {
		if f != 1<<i {
			t.Errorf("field %d: %b", i, f)
		}
	}
}

// others are values that a field may be asked to have: its edges, and some between.
func others(f reflect.Value) []reflect.Value {
	var l []reflect.Value
	if f.Kind() == reflect.String {
		for _, s := range []string{"", "a", "b", "A", "name", "\x00", "\xff"} {
			l = append(l, reflect.ValueOf(s))
		}
		return l
	}
	all := ^uint64(0) >> (64 - f.Type().Bits())
	for _, n := range []uint64{0, 1, 2, 255, 256, 65535, 65536, 0x80000000, 0xffffffff, 0x100000000, 1 << 63, all - 1, all} {
		l = append(l, reflect.ValueOf(n&all).Convert(f.Type()))
	}
	return l
}

// Each field alone, at each value, over each value.
func TestTouchedOneField(t *testing.T) {
	for i := range slots(&api.Stat{}) {
		want, have := stat.Keep(), api.Stat{}
		w, h := slots(&want)[i], slots(&have)[i]
		keep := slots(new(keepAll()))[i].Interface()
		for _, a := range others(w) {
			for _, b := range others(h) {
				w.Set(a)
				h.Set(b)
				var set api.Fields
				if a.Interface() != keep && a.Interface() != b.Interface() {
					set = 1 << i
				}
				wantTouched(t, want, have, set)
			}
		}
	}
}

func TestTouchedNamed(t *testing.T) {
	s, _ := sample()
	f, _ := full()
	const all = 1<<13 - 1
	wantTouched(t, stat.Keep(), s, 0)
	wantTouched(t, stat.Keep(), api.Stat{}, 0)
	wantTouched(t, stat.Keep(), stat.Keep(), 0)
	wantTouched(t, s, s, 0)
	wantTouched(t, f, s, all)
	wantTouched(t, f, stat.Keep(), all)
	wantTouched(t, api.Stat{}, f, all&^(api.FieldName|api.FieldUid|api.FieldGid|api.FieldMuid))
	wantTouched(t, api.Stat{}, stat.Keep(), 1<<9-1)
}

func TestTouchedMixed(t *testing.T) {
	rnd := rand.New(rand.NewSource(5))
	for range 20000 {
		want, have := someStat(rnd), someStat(rnd)
		base := have
		if rnd.Intn(2) == 0 {
			base = stat.Keep()
		}
		want = over(api.Fields(rnd.Intn(1<<13)), want, base)
		wantTouched(t, want, have, touched(want, have))
	}
}

// A change that touches nothing changes nothing; what was changed by it is touched by it no more.
func TestChangesHold(t *testing.T) {
	rnd := rand.New(rand.NewSource(6))
	for range 5000 {
		have := someStat(rnd)
		want := over(api.Fields(rnd.Intn(1<<13)), someStat(rnd), stat.Keep())
		got := stat.Over(want, have)
		if stat.Touched(want, have) == 0 && got != have {
			t.Fatalf("Over(%+v, %+v), which touches nothing: %+v", want, have, got)
		}
		if f := stat.Touched(want, got); f != 0 {
			t.Fatalf("Touched(%+v, %+v) once more: %b", want, have, f)
		}
		if again := stat.Over(want, got); again != got {
			t.Fatalf("Over(%+v, %+v) once more: %+v", want, have, again)
		}
	}
}
