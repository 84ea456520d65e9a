package users_test

import (
	"math/rand"
	"slices"
	"strings"
	"testing"

	"verger/api"
	"verger/users"
)

// What Text writes is read as the same table.
func TestTextIsRead(t *testing.T) {
	rnd := rand.New(rand.NewSource(5))
	for range 2000 {
		l := someTable(rnd, 10)
		text := parsed(t, textOf(l)).Text()
		again := parsed(t, text)
		wantTable(t, again, l)
		if again.Text() != text {
			t.Fatalf("Text of %q: %q", text, again.Text())
		}
		if u, e, _ := users.Parse(strings.TrimSuffix(text, "\n")); e != api.OK || u.Text() != text {
			t.Fatalf("%q without the last newline: %d", text, e)
		}
	}
}

// What Print writes, Parse reads as these accounts; and it is what Text writes of them.
func TestPrintIsRead(t *testing.T) {
	rnd := rand.New(rand.NewSource(6))
	for range 2000 {
		l := someTable(rnd, 10)
		text, e := users.Print(l)
		if e != api.OK {
			t.Fatalf("Print(%q): %d", l, e)
		}
		u := parsed(t, text)
		wantTable(t, u, l)
		wantPrint(t, slices.Collect(u.Accounts()), u.Text(), api.OK)
	}
}

// Lines that say nothing change nothing but the error's line.
func TestSilentLines(t *testing.T) {
	rnd := rand.New(rand.NewSource(7))
	faults := 0
	for range 5000 {
		text := textOf(someTable(rnd, 6))
		if rnd.Intn(2) == 0 {
			text = damaged(rnd, text)
		}
		u, e, at := users.Parse(text)
		said, moved, want := "", 0, 0
		for i, line := range strings.SplitAfter(text, "\n") {
			for range rnd.Intn(3) {
				said += []string{"\n", "#\n", "#" + someLine(rnd), "#a:::\n", "# \x00\xff\n"}[rnd.Intn(5)]
				moved++
			}
			said += line
			if i+1 == at {
				want = at + moved
			}
		}
		v, again, place := users.Parse(said)
		if again != e || place != want || (v == nil) != (u == nil) {
			t.Fatalf("%q: %d, %d; with other lines %q: %d, %d", text, e, at, said, again, place)
		}
		if e != api.OK {
			faults++
		} else if v.Text() != u.Text() {
			t.Fatalf("%q: another table: %q", said, v.Text())
		}
	}
	if faults < 1000 {
		t.Errorf("%d faults", faults)
	}
}

// To whom somebody belongs does not hang on the order of lines, nor of members.
func TestOrderIsNothing(t *testing.T) {
	rnd := rand.New(rand.NewSource(8))
	for range 2000 {
		l := someTable(rnd, 8)
		u := parsed(t, textOf(l))
		other := slices.Clone(l)
		rnd.Shuffle(len(other), func(i, j int) { other[i], other[j] = other[j], other[i] })
		for i := range other {
			m := slices.Clone(other[i].Members)
			rnd.Shuffle(len(m), func(i, j int) { m[i], m[j] = m[j], m[i] })
			other[i].Members = m
		}
		v := parsed(t, textOf(other))
		for _, a := range l {
			if !slices.Equal(u.Groups(a.Name), v.Groups(a.Name)) {
				t.Fatalf("%q, %q: Groups(%q) differ", textOf(l), textOf(other), a.Name)
			}
			for _, b := range l {
				if u.Member(a.Name, b.Name) != v.Member(a.Name, b.Name) || u.Leads(a.Name, b.Name) != v.Leads(a.Name, b.Name) {
					t.Fatalf("%q, %q: %q and %q differ", textOf(l), textOf(other), a.Name, b.Name)
				}
			}
		}
	}
}

// A line that is added by Edit and taken away again leaves the table as it was, if its Name was not known.
func TestAddedAndAway(t *testing.T) {
	rnd := rand.New(rand.NewSource(9))
	for range 2000 {
		l := someTable(rnd, 8)
		u := parsed(t, textOf(l))
		of := []string{"new"}
		for _, a := range l {
			of = append(of, a.Name)
		}
		v := edited(t, u, lineOf(someAccount(rnd, "new", of)))
		if !v.Known("new") || u.Known("new") {
			t.Fatalf("%q: the new one is not in the new table alone", textOf(l))
		}
		wantTable(t, edited(t, v, "-new"), l)
	}
}

// What a table says of groups hangs together: Groups are those of Member, and who leads where nobody is named is who belongs.
func TestHangsTogether(t *testing.T) {
	rnd := rand.New(rand.NewSource(10))
	for range 3000 {
		u := parsed(t, textOf(someTable(rnd, 8)))
		for a := range u.Accounts() {
			for b := range u.Accounts() {
				if u.Member(a.Name, b.Name) != slices.Contains(u.Groups(a.Name), b.Name) {
					t.Fatalf("%q: Member(%q, %q) and Groups differ", u.Text(), a.Name, b.Name)
				}
				if b.Leader == "" && u.Leads(a.Name, b.Name) != u.Member(a.Name, b.Name) || b.Leader != "" && u.Leads(a.Name, b.Name) != (a.Name == b.Leader) {
					t.Fatalf("%q: Leads(%q, %q)", u.Text(), a.Name, b.Name)
				}
			}
			if u.Key(a.Name) != a.Key || !slices.IsSorted(u.Groups(a.Name)) {
				t.Fatalf("%q: Key or Groups of %q", u.Text(), a.Name)
			}
		}
	}
}
