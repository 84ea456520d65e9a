package users_test

import (
	"math/rand"
	"strings"
	"testing"

	"verger/api"
	"verger/users"
)

// The chapter's example 3.
func TestEditExample(t *testing.T) {
	u := parsed(t, "a:::\nb::a:")
	wantNoEdit(t, u, "-a", api.ErrUsersNone)
	v := edited(t, u, "b:::")
	wantTable(t, u, []api.Account{{Name: "a"}, {Name: "b", Members: []string{"a"}}})
	wantTable(t, edited(t, v, "-a"), []api.Account{{Name: "b"}})
	wantTable(t, v, []api.Account{{Name: "a"}, {Name: "b"}})
}

// An account comes to stand in the place of the one of its Name, or at the end.
func TestEditAccount(t *testing.T) {
	u := parsed(t, "a:::\nb::a:k\nc:::")
	for line, want := range map[string]string{
		"a:b:b,c:x": "a:b:b,c:x\nb::a:k\nc:::\n",
		"b:::":      "a:::\nb:::\nc:::\n",
		"b::a:k":    "a:::\nb::a:k\nc:::\n",
		"c:c:c:":    "a:::\nb::a:k\nc:c:c:\n",
		"d:::":      "a:::\nb::a:k\nc:::\nd:::\n",
		"d:d:d,a:k": "a:::\nb::a:k\nc:::\nd:d:d,a:k\n",
		"A:::":      "a:::\nb::a:k\nc:::\nA:::\n",
		"-:::":      "a:::\nb::a:k\nc:::\n-:::\n",
		"-a:::":     "a:::\nb::a:k\nc:::\n-a:::\n",
		"-a:-a:-a:": "a:::\nb::a:k\nc:::\n-a:-a:-a:\n",
	} {
		if v := edited(t, u, line); v.Text() != want {
			t.Errorf("Edit(%q): %q", line, v.Text())
		}
	}
	wantTable(t, u, []api.Account{{Name: "a"}, {Name: "b", Members: []string{"a"}, Key: "k"}, {Name: "c"}})
	wantTable(t, edited(t, parsed(t, ""), "a:a:a:"), []api.Account{{Name: "a", Leader: "a", Members: []string{"a"}}})
	// What the account that was replaced said holds no more.
	v := edited(t, edited(t, u, "b:c:c:"), "-a")
	wantTable(t, v, []api.Account{{Name: "b", Leader: "c", Members: []string{"c"}}, {Name: "c"}})
}

func TestEditAway(t *testing.T) {
	u := parsed(t, "a:a:a:k\n-:::\n-b::-:\n--b:::\nc:::")
	for line, want := range map[string]string{
		"-a":   "-:::\n-b::-:\n--b:::\nc:::\n",
		"--b":  "a:a:a:k\n-:::\n--b:::\nc:::\n",
		"---b": "a:a:a:k\n-:::\n-b::-:\nc:::\n",
		"-c":   "a:a:a:k\n-:::\n-b::-:\n--b:::\n",
	} {
		if v := edited(t, u, line); v.Text() != want {
			t.Errorf("Edit(%q): %q", line, v.Text())
		}
	}
	wantTable(t, edited(t, parsed(t, "a:a:a:k"), "-a"), nil)
	long := strings.Repeat("x", 32)
	wantTable(t, edited(t, parsed(t, long+":::\na:::"), "-"+long), []api.Account{{Name: "a"}})
	wantTable(t, edited(t, parsed(t, "é:::\na:::"), "-é"), []api.Account{{Name: "a"}})
}

// Who is not there, or is named by another one, can't be taken away.
func TestEditAwayRefused(t *testing.T) {
	u := parsed(t, "a:b:c:k\nb:::\nc:::\nd:d:d:")
	for _, line := range []string{"-b", "-c", "-x", "-A", "-k", "--", "--a", "-\ufffd", "-" + strings.Repeat("a", 32)} {
		wantNoEdit(t, u, line, api.ErrUsersNone)
	}
	wantNoEdit(t, parsed(t, ""), "-a", api.ErrUsersNone)
	wantNoEdit(t, parsed(t, "a::b:\nb:::"), "-b", api.ErrUsersNone)
	wantNoEdit(t, parsed(t, "a:b::\nb:::"), "-b", api.ErrUsersNone)
	wantNoEdit(t, parsed(t, "b:::\na::c,b:\nc:::"), "-b", api.ErrUsersNone)
}

// Lines that are neither an account nor `-` and a name.
func TestEditLine(t *testing.T) {
	u := parsed(t, "a:::\nb::a:")
	for _, line := range []string{"", "#", "#a:::", "# a", "-", "- a", "-a ", "-a\n", "-#", "-a,b", "-a/", "-:", "-a:", "-a::", "-\xff", "-a\x00", "-" + strings.Repeat("a", 33), "-" + strings.Repeat("é", 17), "a", "a::", "a::::", ":::", "a:::\n", "\na:::", "a:::\nb:::", "a:::\n-b", " a:::", "a::a,:", "a:::k k", "a:::é",
		"\xff:::", "-\xff:::", strings.Repeat("a", 33) + ":::", "x:" + strings.Repeat("a", 33) + "::", "+a", "−a"} {
		wantNoEdit(t, u, line, api.ErrUsersLine)
	}
	wantNoEdit(t, u, strings.Repeat("#", 70000), api.ErrUsersLine)
	wantNoEdit(t, u, strings.Repeat("a", 70000), api.ErrUsersLine)
}

func TestEditRefused(t *testing.T) {
	u := parsed(t, "a:::\nb::a:")
	for line, want := range map[string]api.Errno{
		"x::a,a:": api.ErrUsersTwice, "x::x,x:": api.ErrUsersTwice, "b::a,b,a:": api.ErrUsersTwice, "x:y:y,y:": api.ErrUsersTwice, "x::y,a,y:": api.ErrUsersTwice,
		"x:y::": api.ErrUsersNone, "x::y:": api.ErrUsersNone, "x::a,b,y:": api.ErrUsersNone, "a:x::": api.ErrUsersNone, "x:A::": api.ErrUsersNone, "a:b:a,b,c:": api.ErrUsersNone,
		"x::a,a,#:": api.ErrUsersLine, "x:y::\xff": api.ErrUsersLine,
	} {
		wantNoEdit(t, u, line, want)
	}
}

// A table's text has at most 65536 bytes, also when it was edited.
func TestEditLong(t *testing.T) {
	u := parsed(t, fullText())
	for line, want := range map[string]api.Errno{"a:::": api.ErrArg, "0000:::kk": api.ErrArg, "0000::0001:": api.ErrArg, "0000:0001::": api.ErrArg, "a:x::": api.ErrUsersNone, "a::0000,0000:": api.ErrUsersTwice, "a::": api.ErrUsersLine, "-a": api.ErrUsersNone, "a::x,x:": api.ErrUsersTwice} {
		wantNoEdit(t, u, line, want)
	}
	if n := len(edited(t, u, "0000:::K").Text()); n != 65536 {
		t.Errorf("another key: %d bytes", n)
	}
	v := edited(t, u, "-0000")
	wantNoEdit(t, v, "00000:::k", api.ErrArg)
	if n := len(edited(t, v, "a:::1234").Text()); n != 65536 {
		t.Errorf("another account: %d bytes", n)
	}
	wantNoEdit(t, v, "a:::12345", api.ErrArg)
	v = edited(t, u, "0000:::")
	if n := len(edited(t, v, "0000:::k").Text()); n != 65536 {
		t.Errorf("a key again: %d bytes", n)
	}
}

// wantEdit holds Edit, the table that comes of it and the one that it was asked of to the model.
func wantEdit(t *testing.T, u *users.Table, l []api.Account, line string) {
	t.Helper()
	want, wantErr := editOf(l, line)
	v, e := u.Edit(line)
	if e != wantErr || (v == nil) != (e != api.OK) {
		t.Fatalf("%q: Edit(%q): %v, %d; want %d", textOf(l), line, v, e, wantErr)
	}
	if e == api.OK {
		wantTable(t, v, want)
	}
	if u.Text() != textOf(l) {
		t.Fatalf("Edit(%q) changed the table %q to %q", line, textOf(l), u.Text())
	}
}

// Short lines, one by one, against the model.
func TestEditEach(t *testing.T) {
	for _, text := range []string{"", "a:::\n", "a:b:a:k\nb:::\n", "b::a:\na:::\n", "-:::\na:a:-:\n"} {
		l, _, _ := parseOf(text)
		u := parsed(t, text)
		for _, line := range each(5, "a", "b", ":", ",", "-", "\n", "#") {
			wantEdit(t, u, l, line)
		}
		for _, line := range each(5, "a", "b", ":", "::", ":::", ",", "-") {
			wantEdit(t, u, l, line)
		}
	}
}

// Rows of edits, against the model: all tables on the way stay as they were.
func TestEditMixed(t *testing.T) {
	rnd := rand.New(rand.NewSource(4))
	names := []string{"a", "b", "c", "-", "-a", "é", "x y"}
	for range 500 {
		l := someTable(rnd, 6)
		u := parsed(t, textOf(l))
		var tables []*users.Table
		var lists [][]api.Account
		for range 15 {
			tables, lists = append(tables, u), append(lists, l)
			line := "-" + names[rnd.Intn(len(names))]
			if rnd.Intn(3) > 0 {
				line = lineOf(someAccount(rnd, names[rnd.Intn(len(names))], names[:1+rnd.Intn(6)]))
			}
			wantEdit(t, u, l, line)
			if next, e := u.Edit(line); e == api.OK {
				l, _ = editOf(l, line)
				u = next
			}
		}
		for i := range tables {
			wantTable(t, tables[i], lists[i])
		}
	}
}
