package users_test

import (
	"math/rand"
	"slices"
	"strings"
	"testing"

	"verger/api"
	"verger/users"
)

func TestPrintOrdinary(t *testing.T) {
	wantPrint(t, nil, "", api.OK)
	wantPrint(t, []api.Account{{Name: "a"}}, "a:::\n", api.OK)
	wantPrint(t, []api.Account{{Name: "a", Leader: "b", Members: []string{"a", "b"}, Key: "k"}, {Name: "b"}}, "a:b:a,b:k\nb:::\n", api.OK)
	wantPrint(t, []api.Account{{Name: "é", Leader: "é", Members: []string{"é"}, Key: strings.Repeat("#", 32)}}, "é:é:é:"+strings.Repeat("#", 32)+"\n", api.OK)
	wantPrint(t, []api.Account{{Name: "-"}, {Name: "b", Members: []string{"c", "-"}}, {Name: "c", Leader: "-"}}, "-:::\nb::c,-:\nc:-::\n", api.OK)
	wantPrint(t, []api.Account{{Name: strings.Repeat("a", 32)}}, strings.Repeat("a", 32)+":::\n", api.OK)
}

// Fields that can stand in no line.
func TestPrintLine(t *testing.T) {
	for _, s := range []string{" ", "a b", "a\n", "\n", "\t", "a:", ":", "a,b", ",", "#", "a#", "/", "a/b", "\x00", "\x7f", "\x1f", "\xff", "a\xc3", strings.Repeat("a", 33), strings.Repeat("é", 17), strings.Repeat("a", 70000)} {
		for _, a := range []api.Account{{Name: s}, {Name: "a", Leader: s}, {Name: "a", Members: []string{s}}, {Name: "a", Members: []string{"a", s}}, {Name: "a", Members: []string{s, "a"}}} {
			wantPrint(t, []api.Account{a}, "", api.ErrUsersLine)
			wantPrint(t, []api.Account{{Name: "x"}, a, {Name: "y"}}, "", api.ErrUsersLine)
		}
	}
	for _, a := range []api.Account{{}, {Leader: "a"}, {Key: "k"}, {Name: "a", Members: []string{""}}, {Name: "a", Members: []string{"a", ""}}, {Name: "a", Members: []string{"", "a"}},
		{Name: "a", Key: ":"}, {Name: "a", Key: " "}, {Name: "a", Key: "k\n"}, {Name: "a", Key: "\x7f"}, {Name: "a", Key: "é"}, {Name: "a", Key: "\xff"}, {Name: "a", Key: strings.Repeat("k", 33)}} {
		wantPrint(t, []api.Account{a}, "", api.ErrUsersLine)
		wantPrint(t, []api.Account{{Name: "x"}, {Name: "x"}, a}, "", api.ErrUsersLine)
	}
}

// Each byte, in each of the fields.
func TestPrintBytes(t *testing.T) {
	for b := range 256 {
		s := string([]byte{byte(b)})
		for _, s := range []string{s, "a" + s, s + "a", "\xc3" + s, strings.Repeat("a", 31) + s, strings.Repeat("a", 32) + s} {
			for _, a := range []api.Account{{Name: s}, {Name: "a", Leader: s}, {Name: "a", Members: []string{s}}, {Name: "a", Key: s}} {
				wantPrinted(t, []api.Account{a, {Name: "é"}})
			}
		}
	}
}

// wantPrinted holds Print to the model.
func wantPrinted(t *testing.T, l []api.Account) {
	t.Helper()
	if e := faultOf(l); e != api.OK {
		wantPrint(t, l, "", e)
		return
	}
	wantPrint(t, l, textOf(l), api.OK)
}

// Which error there is, where there are several: a form of any account's, then a name that stands twice, then one that has no line, then the length.
func TestPrintFirst(t *testing.T) {
	two, none, line := api.Account{Name: "a", Members: []string{"x", "x"}}, api.Account{Name: "b", Leader: "y"}, api.Account{Name: "#"}
	wantPrint(t, []api.Account{two}, "", api.ErrUsersTwice)
	wantPrint(t, []api.Account{none}, "", api.ErrUsersNone)
	wantPrint(t, []api.Account{{Name: "b", Members: []string{"b", "y"}}}, "", api.ErrUsersNone)
	wantPrint(t, []api.Account{{Name: "b"}, {Name: "a"}, {Name: "b"}}, "", api.ErrUsersTwice)
	wantPrint(t, []api.Account{two, line}, "", api.ErrUsersLine)
	wantPrint(t, []api.Account{none, line}, "", api.ErrUsersLine)
	wantPrint(t, []api.Account{none, two}, "", api.ErrUsersTwice)
	wantPrint(t, []api.Account{none, none}, "", api.ErrUsersTwice)
	wantPrint(t, []api.Account{two, none, line}, "", api.ErrUsersLine)

	long := manyAccounts()
	wantPrint(t, long, textOf(long), api.OK)
	long[0].Key += "k"
	wantPrint(t, long, "", api.ErrArg)
	wantPrint(t, append(slices.Clone(long), none), "", api.ErrUsersNone)
	wantPrint(t, append(slices.Clone(long), two), "", api.ErrUsersTwice)
	wantPrint(t, append(slices.Clone(long), line), "", api.ErrUsersLine)
}

// manyAccounts are few accounts, of many members, whose text has 65536 bytes.
func manyAccounts() []api.Account {
	var l []api.Account
	var names []string
	for i := range 80 {
		l = append(l, api.Account{Name: strings.Repeat(string(rune('0'+i/10)), 10) + string(rune('0'+i%10))})
		names = append(names, l[i].Name)
	}
	have := 80 * (11 + 4)
	for i := range l {
		// Members of 12 bytes each, but for the comma that the first one has not.
		n := min(len(names), (65536-have)/12)
		if n > 0 {
			l[i].Members = names[:n]
			have += 12*n - 1
		}
	}
	for i := range l {
		n := min(31, 65536-have)
		l[i].Key = strings.Repeat("k", n)
		have += n
	}
	return l
}

// Accounts of all sorts, against the model.
func TestPrintMixed(t *testing.T) {
	rnd := rand.New(rand.NewSource(2))
	names := []string{"a", "b", "c", "", "d e", "é", "-"}
	for range 30000 {
		l := someTable(rnd, 5)
		for i := range l {
			if rnd.Intn(8) > 0 {
				continue
			}
			switch name := names[rnd.Intn(len(names))]; rnd.Intn(4) {
			case 0:
				l[i].Name = name
			case 1:
				l[i].Leader = name
			case 2:
				l[i].Members = append(l[i].Members, name)
			case 3:
				l[i].Key = name
			}
		}
		wantPrinted(t, l)
	}
}

// What Print writes, Parse reads as these accounts; what it refuses, no text says.
func TestPrintEach(t *testing.T) {
	var l []api.Account
	for _, name := range []string{"a", "b", "c", "#"} {
		for _, leader := range []string{"", "a", "b"} {
			for _, members := range [][]string{nil, {"a"}, {"a", "b"}, {"b", "b"}, {""}} {
				l = append(l, api.Account{Name: name, Leader: leader, Members: members})
			}
		}
	}
	for _, a := range l {
		wantPrinted(t, []api.Account{a})
		for _, b := range l {
			wantPrinted(t, []api.Account{a, b})
			for _, c := range l[:20] {
				wantPrinted(t, []api.Account{a, b, c})
				text, e := users.Print([]api.Account{a, b, c})
				if e != api.OK {
					continue
				}
				wantTable(t, parsed(t, text), []api.Account{a, b, c})
			}
		}
	}
}
