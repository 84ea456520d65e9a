package users_test

import (
	"math/rand"
	"runtime"
	"slices"
	"strings"
	"testing"

	"verger/api"
	"verger/users"
)

// R1: nothing panics and all ends, whatever texts are handed in; R5: an error is one of the chapter's, and beside it there is nothing.
func TestAnyTexts(t *testing.T) {
	rnd := rand.New(rand.NewSource(11))
	u := parsed(t, example)
	errs := []api.Errno{api.OK, api.ErrArg, api.ErrUsersLine, api.ErrUsersTwice, api.ErrUsersNone}
	for range 30000 {
		a, b := someBytes(rnd), some(rnd, 12, "a", "b", ":", ":::", "\n", "#", ",", "-", "\xff", "\x00", "é")
		for _, text := range []string{a, b, a + b, b + a} {
			v, e, at := users.Parse(text)
			if !slices.Contains(errs, e) || (v == nil) != (e != api.OK) || (at == 0) != (e == api.OK || e == api.ErrArg) || at > strings.Count(text, "\n")+1 {
				t.Fatalf("Parse(%q): %v, %d, %d", text, v, e, at)
			}
			if v, e := u.Edit(text); !slices.Contains(errs, e) || (v == nil) != (e != api.OK) {
				t.Fatalf("Edit(%q): %v, %d", text, v, e)
			}
			if u.Known(text) || u.Key(text) != "" || len(u.Groups(text)) > 0 || u.Member(text, "adm") || u.Member("adm", text) || u.Leads("adm", text) || u.Leads(text, "sys") {
				t.Fatalf("%q is known", text)
			}
		}
		if text, e := users.Print([]api.Account{{Name: a, Leader: b, Members: []string{b, a}, Key: a}}); !slices.Contains(errs, e) || e != api.OK && text != "" {
			t.Fatalf("Print: %q, %d", text, e)
		}
	}
}

// R1: also long rows of one byte alike.
func TestExtremes(t *testing.T) {
	u := parsed(t, example)
	for b := range 256 {
		for _, n := range []int{31, 32, 33, 65536, 65537, 200000} {
			s := strings.Repeat(string([]byte{byte(b)}), n)
			wantParse(t, s)
			if _, e := u.Edit(s); e != api.ErrUsersLine && (s[0] != '-' || n > 33) {
				t.Errorf("Edit(%s): %d", short(s), e)
			}
			if n <= 33 {
				wantPrinted(t, []api.Account{{Name: s, Members: []string{s}, Key: s}})
			} else {
				wantPrint(t, []api.Account{{Name: "a", Key: s}}, "", api.ErrUsersLine)
			}
			if u.Known(s) || len(u.Groups(s)) > 0 {
				t.Errorf("%s is known", short(s))
			}
		}
	}
}

// R1: long lists of accounts and of members end, and soon.
func TestLongLists(t *testing.T) {
	wantPrint(t, make([]api.Account, 300000), "", api.ErrUsersLine)
	wantPrint(t, slices.Repeat([]api.Account{{Name: "a"}}, 300000), "", api.ErrUsersTwice)
	wantPrint(t, []api.Account{{Name: "a", Members: make([]string, 300000)}}, "", api.ErrUsersLine)
	wantPrint(t, []api.Account{{Name: "a", Members: slices.Repeat([]string{"b"}, 300000)}}, "", api.ErrUsersTwice)
	text := fullText()
	for range 20 {
		u := parsed(t, text)
		u.Groups("0000")
		edited(t, u, "-0001")
	}
}

// R2: nothing that is handed in is written into, nor its spare room, lists within it too; and nothing is kept of it.
func TestHandedInStays(t *testing.T) {
	names := []string{"b", "a", "c", "spare"}
	room := []api.Account{{Name: "c", Members: names[:3]}, {Name: "a", Leader: "b", Members: names[:0]}, {Name: "b", Members: []string{}}, {Name: "spare"}}
	was, wasNames := slices.Clone(room), slices.Clone(names)
	wantPrint(t, room[:3], "c::b,a,c:\na:b::\nb:::\n", api.OK)
	wantPrint(t, room[:2], "", api.ErrUsersNone)
	if !slices.EqualFunc(room, was, sameAccount) || !slices.Equal(names, wasNames) {
		t.Errorf("a list was written into: %q, %q", room, names)
	}
}

// spoil changes all of an account's members, and their spare room.
func spoil(l []string) {
	l = l[:cap(l)]
	for i := range l {
		l[i] = "spoilt"
	}
}

// R2: what comes out is new memory, spare room too.
func TestComesOutNew(t *testing.T) {
	text := "a::a,b,c:\nb:a:a:\nc::b,c:k\n"
	l, _, _ := parseOf(text)
	for range 3 {
		u := parsed(t, text)
		v := edited(t, u, "d::a,d:")
		w := edited(t, v, "-d")
		for a := range u.Accounts() {
			spoil(a.Members)
		}
		seq := v.Accounts()
		kept := slices.Collect(seq)
		for a := range seq {
			spoil(a.Members)
			spoil(u.Groups(a.Name))
		}
		wantTable(t, u, l)
		wantTable(t, v, append(slices.Clone(l), api.Account{Name: "d", Members: []string{"a", "d"}}))
		wantTable(t, w, l)
		if !slices.EqualFunc(kept[:3], l, sameAccount) {
			t.Errorf("what came out of an earlier range changed: %q", kept)
		}
		groups := u.Groups("a")
		spoil(u.Groups("a"))
		if !slices.Equal(groups, []string{"a", "b"}) {
			t.Errorf("Groups share memory: %q", groups)
		}
	}
}

// R2: lists that come out share no memory with one another: what is put behind one changes no other.
func TestSpareRoom(t *testing.T) {
	u := parsed(t, "a::a,b,c:\nb::a,b:\nc:::")
	kept := slices.Collect(u.Accounts())
	for _, a := range kept {
		_ = append(a.Members, "more", "and more")
		if cap(a.Members) > len(a.Members) {
			a.Members[:len(a.Members)+1][len(a.Members)] = "spoilt"
		}
	}
	if again := slices.Collect(u.Accounts()); textOf(kept) != u.Text() || textOf(again) != u.Text() {
		t.Errorf("%q, %q", kept, again)
	}
}

// R2: a list that has nothing in it may be nil or not.
func TestNilIsEmpty(t *testing.T) {
	wantPrint(t, []api.Account{}, "", api.OK)
	wantPrint(t, []api.Account{{Name: "a", Members: []string{}}}, "a:::\n", api.OK)
	wantPrint(t, []api.Account{{Name: "a", Members: nil}}, "a:::\n", api.OK)
}

// R3: the same calls are answered the same, whatever was asked between; tables know nothing of one another.
func TestSameAgain(t *testing.T) {
	u, v := parsed(t, example), parsed(t, "glenda:::k2\nbob::glenda:")
	for range 3 {
		wantGroups(t, u, "glenda", "adm", "glenda", "sys")
		wantGroups(t, v, "glenda", "bob", "glenda")
		wantMember(t, v, "glenda", "adm", false)
		if u.Known("bob") || v.Known("adm") || u.Key("glenda") != "key1" || v.Key("glenda") != "k2" {
			t.Error("one table knows of the other")
		}
		edited(t, u, "bob:::")
		wantNoEdit(t, u, "-glenda", api.ErrUsersNone)
		wantNoEdit(t, v, "-glenda", api.ErrUsersNone)
		wantRefused(t, "glenda", api.ErrUsersLine, 1)
		wantPrint(t, []api.Account{{Name: "glenda", Leader: "bob"}}, "", api.ErrUsersNone)
		wantNoEdit(t, u, "x:bob::", api.ErrUsersNone)
	}
	if u.Text() != example {
		t.Errorf("the table changed: %q", u.Text())
	}
}

// R4: nothing goes on when a call has answered.
func TestNoGoroutines(t *testing.T) {
	was := runtime.NumGoroutine()
	u := parsed(t, example)
	for range u.Accounts() {
		break
	}
	users.Parse("a")
	users.Parse("a:b::")
	users.Print([]api.Account{{Name: "a"}, {Name: "a"}})
	u.Edit("-glenda")
	u.Edit("a:::")
	u.Groups("glenda")
	if n := runtime.NumGoroutine(); n > was {
		t.Errorf("%d goroutines more", n-was)
	}
}
