package users_test

import (
	"math/rand"
	"slices"
	"strings"
	"testing"

	"verger/api"
	"verger/users"
)

// example is the table of the chapter's first example.
const example = "adm::glenda:\nglenda:::key1\nsys:glenda:adm,glenda:\n"

func wantMember(t *testing.T, u *users.Table, user, group string, want bool) {
	t.Helper()
	if u.Member(user, group) != want {
		t.Errorf("Member(%q, %q): %v", user, group, !want)
	}
}

func wantLeads(t *testing.T, u *users.Table, user, group string, want bool) {
	t.Helper()
	if u.Leads(user, group) != want {
		t.Errorf("Leads(%q, %q): %v", user, group, !want)
	}
}

func wantGroups(t *testing.T, u *users.Table, user string, want ...string) {
	t.Helper()
	if got := u.Groups(user); !slices.Equal(got, want) {
		t.Errorf("Groups(%q): %q; want %q", user, got, want)
	}
}

func TestTableExample(t *testing.T) {
	u := parsed(t, strings.TrimSuffix(example, "\n"))
	wantMember(t, u, "glenda", "adm", true)
	wantMember(t, u, "adm", "sys", true)
	wantMember(t, u, "adm", "adm", true)
	wantMember(t, u, "adm", "glenda", false)
	wantLeads(t, u, "glenda", "sys", true)
	wantLeads(t, u, "glenda", "adm", true)
	wantLeads(t, u, "adm", "adm", true)
	wantLeads(t, u, "adm", "sys", false)
	wantGroups(t, u, "glenda", "adm", "glenda", "sys")
	if u.Key("glenda") != "key1" {
		t.Errorf("Key(glenda): %q", u.Key("glenda"))
	}
	if u.Text() != example {
		t.Errorf("Text: %q", u.Text())
	}
}

// Who is known, and by what name exactly.
func TestKnown(t *testing.T) {
	u := parsed(t, "a:::\nab:::k\né:::\n#c:::\n-:::")
	for name, want := range map[string]bool{"a": true, "ab": true, "é": true, "-": true, "": false, "b": false, "A": false, "a ": false, " a": false, "abc": false, "e": false, "c": false, "#c": false, "a:": false, "a:::": false, "\xc3": false, "k": false, "--": false, "a\n": false} {
		if u.Known(name) != want {
			t.Errorf("Known(%q): %v", name, !want)
		}
	}
}

// A member belongs to a group by its account alone: no member of a member does, no leader does, and not the other way round.
func TestMember(t *testing.T) {
	u := parsed(t, "a:::\nb::a:\nc:d:b:\nd:::\ne:::k\nf::f:")
	wantMember(t, u, "a", "b", true)
	wantMember(t, u, "b", "c", true)
	wantMember(t, u, "a", "c", false)
	wantMember(t, u, "b", "a", false)
	wantMember(t, u, "d", "c", false)
	wantMember(t, u, "c", "d", false)
	for _, name := range []string{"a", "b", "c", "d", "e", "f"} {
		wantMember(t, u, name, name, true)
	}
	for _, name := range []string{"", "x", "A", "a,b", "\xff", "a:"} {
		wantMember(t, u, name, name, false)
		wantMember(t, u, name, "a", false)
		wantMember(t, u, "a", name, false)
	}
	// Names are no halves of one text.
	u = parsed(t, "ab::c:\na::bc:\nbc:::\nc:::\nb:::")
	wantMember(t, u, "c", "ab", true)
	wantMember(t, u, "bc", "a", true)
	wantMember(t, u, "bc", "ab", false)
	wantMember(t, u, "c", "a", false)
	wantMember(t, u, "b", "ab", false)
}

// A leader that is named leads alone, a member or not; where none is, each member does, and the group itself.
func TestLeads(t *testing.T) {
	u := parsed(t, "a:::\nb:::\ng:a:b,g:\nh::b:\ni:i:a:\nj:b:b:")
	wantLeads(t, u, "a", "g", true)
	wantLeads(t, u, "b", "g", false)
	wantLeads(t, u, "g", "g", false)
	wantLeads(t, u, "b", "h", true)
	wantLeads(t, u, "h", "h", true)
	wantLeads(t, u, "a", "h", false)
	wantLeads(t, u, "i", "i", true)
	wantLeads(t, u, "a", "i", false)
	wantLeads(t, u, "b", "j", true)
	wantLeads(t, u, "j", "j", false)
	wantLeads(t, u, "a", "a", true)
	wantLeads(t, u, "b", "a", false)
	// Who leads need not belong.
	wantMember(t, u, "a", "g", false)
	for _, name := range []string{"", "x", "A", "\xff"} {
		wantLeads(t, u, name, name, false)
		wantLeads(t, u, name, "g", false)
		wantLeads(t, u, name, "h", false)
		wantLeads(t, u, "a", name, false)
	}
}

func TestKey(t *testing.T) {
	u := parsed(t, "a:::k\nb:::\nc:::a#,/\nd:::"+strings.Repeat("~", 32))
	for name, want := range map[string]string{"a": "k", "b": "", "c": "a#,/", "d": strings.Repeat("~", 32), "": "", "x": "", "k": "", "A": ""} {
		if got := u.Key(name); got != want {
			t.Errorf("Key(%q): %q, want %q", name, got, want)
		}
	}
}

// Groups rise byte by byte, whatever the order of the lines is; each stands there once.
func TestGroups(t *testing.T) {
	u := parsed(t, "z::a:\né::a:\nab::a,b:\na::a:\nB::a:\n-::b,a:\naa:a::\nb:::\na0::a:\n😀::a:\n\ufffd::a:\n~::a:")
	wantGroups(t, u, "a", "-", "B", "a", "a0", "ab", "z", "~", "é", "\ufffd", "😀")
	wantGroups(t, u, "b", "-", "ab", "b")
	wantGroups(t, u, "z", "z")
	wantGroups(t, u, "aa", "aa")
	wantGroups(t, u, "")
	wantGroups(t, u, "x")
	wantGroups(t, u, "A")
	wantGroups(t, parsed(t, ""), "a")
}

func namesIn(u *users.Table, most int) []string {
	var names []string
	for a := range u.Accounts() {
		names = append(names, a.Name)
		if len(names) == most {
			break
		}
	}
	return names
}

// The accounts are gone through in the order of their lines; they may be left early, and gone through again.
func TestAccounts(t *testing.T) {
	u := parsed(t, "b:a:a,b:k\n#\n\na:::\nc::c,a:#")
	want := []api.Account{{Name: "b", Leader: "a", Members: []string{"a", "b"}, Key: "k"}, {Name: "a"}, {Name: "c", Members: []string{"c", "a"}, Key: "#"}}
	seq := u.Accounts()
	for range 3 {
		if got := slices.Collect(seq); !slices.EqualFunc(got, want, sameAccount) {
			t.Errorf("Accounts: %q", got)
		}
		for most := 1; most <= 4; most++ {
			if got := namesIn(u, most); !slices.Equal(got, []string{"b", "a", "c"}[:min(most, 3)]) {
				t.Errorf("the first %d: %q", most, got)
			}
		}
	}
	n := 0
	for a := range seq {
		for b := range seq {
			if b.Name == a.Name {
				n++
				break
			}
		}
		if got := slices.Collect(seq); !slices.EqualFunc(got, want, sameAccount) {
			t.Errorf("within a range: %q", got)
		}
	}
	if n != 3 {
		t.Errorf("ranges within one another: %d", n)
	}
	if seq := parsed(t, "\n#a:::").Accounts(); seq == nil || len(slices.Collect(seq)) != 0 {
		t.Error("the empty table has accounts")
	}
}

// Tables of all sorts, against the model.
func TestTableMixed(t *testing.T) {
	rnd := rand.New(rand.NewSource(3))
	for range 2000 {
		l := someTable(rnd, 12)
		wantTable(t, parsed(t, textOf(l)), l)
	}
}
