package users_test

import (
	"fmt"
	"math/rand"
	"regexp"
	"slices"
	"strconv"
	"strings"
	"testing"
	"unicode/utf8"

	"verger/api"
	"verger/users"
)

// The model: what the chapter says, in other words than the package's, to hold the package against. A table is a list of accounts; whatever is asked is looked for in it.

const nameForm = `[^\x00-\x20\x7f:,#/]+`

var (
	nameRe    = regexp.MustCompile(`^` + nameForm + `$`)
	keyRe     = regexp.MustCompile(`^[!-9;-~]{0,32}$`)
	accountRe = regexp.MustCompile(`^(` + nameForm + `):(` + nameForm + `|):((?:` + nameForm + `(?:,` + nameForm + `)*)?):([!-9;-~]*)$`)
)

func isName(s string) bool { return len(s) <= 32 && utf8.ValidString(s) && nameRe.MatchString(s) }

// formed tells whether an account can stand in a line.
func formed(a api.Account) bool {
	return isName(a.Name) && (a.Leader == "" || isName(a.Leader)) && !slices.ContainsFunc(a.Members, func(m string) bool { return !isName(m) }) && keyRe.MatchString(a.Key)
}

// accountOf is the account that a line is.
func accountOf(line string) (api.Account, bool) {
	l := accountRe.FindStringSubmatch(line)
	if l == nil {
		return api.Account{}, false
	}
	a := api.Account{Name: l[1], Leader: l[2], Key: l[4]}
	if l[3] != "" {
		a.Members = strings.Split(l[3], ",")
	}
	return a, formed(a)
}

func textOf(l []api.Account) string {
	s := ""
	for _, a := range l {
		s += fmt.Sprintf("%s:%s:%s:%s\n", a.Name, a.Leader, strings.Join(a.Members, ","), a.Key)
	}
	return s
}

func find(l []api.Account, name string) int {
	return slices.IndexFunc(l, func(a api.Account) bool { return a.Name == name })
}

// twice tells whether an account may not stand behind these.
func twice(ahead []api.Account, a api.Account) bool {
	for i, m := range a.Members {
		if slices.Contains(a.Members[:i], m) {
			return true
		}
	}
	return find(ahead, a.Name) >= 0
}

// lacking tells whether an account names somebody who is not there.
func lacking(l []api.Account, a api.Account) bool {
	for _, name := range append([]string{a.Leader}, a.Members...) {
		if name != "" && find(l, name) < 0 {
			return true
		}
	}
	return false
}

// parseOf is what Parse tells.
func parseOf(text string) ([]api.Account, api.Errno, int) {
	if len(text) > 65536 {
		return nil, api.ErrArg, 0
	}
	var l []api.Account
	var at []int
	for i, line := range strings.Split(text, "\n") {
		if line == "" || line[0] == '#' {
			continue
		}
		a, ok := accountOf(line)
		if !ok {
			return nil, api.ErrUsersLine, i + 1
		}
		if twice(l, a) {
			return nil, api.ErrUsersTwice, i + 1
		}
		l, at = append(l, a), append(at, i+1)
	}
	for i, a := range l {
		if lacking(l, a) {
			return nil, api.ErrUsersNone, at[i]
		}
	}
	if len(textOf(l)) > 65536 {
		return nil, api.ErrArg, 0
	}
	return l, api.OK, 0
}

// faultOf is the error of accounts that are no table.
func faultOf(l []api.Account) api.Errno {
	for _, a := range l {
		if !formed(a) {
			return api.ErrUsersLine
		}
	}
	for i, a := range l {
		if twice(l[:i], a) {
			return api.ErrUsersTwice
		}
	}
	for _, a := range l {
		if lacking(l, a) {
			return api.ErrUsersNone
		}
	}
	if len(textOf(l)) > 65536 {
		return api.ErrArg
	}
	return api.OK
}

// editOf is what Edit tells of a table.
func editOf(l []api.Account, line string) ([]api.Account, api.Errno) {
	l = slices.Clone(l)
	if strings.HasPrefix(line, "-") && isName(line[1:]) {
		i := find(l, line[1:])
		if i < 0 {
			return nil, api.ErrUsersNone
		}
		l = append(l[:i:i], l[i+1:]...)
		for _, a := range l {
			if a.Leader == line[1:] || slices.Contains(a.Members, line[1:]) {
				return nil, api.ErrUsersNone
			}
		}
		return l, api.OK
	}
	a, ok := accountOf(line)
	if !ok {
		return nil, api.ErrUsersLine
	}
	if i := find(l, a.Name); i >= 0 {
		l[i] = a
	} else {
		l = append(l, a)
	}
	switch {
	case twice(nil, a):
		return nil, api.ErrUsersTwice
	case lacking(l, a):
		return nil, api.ErrUsersNone
	case len(textOf(l)) > 65536:
		return nil, api.ErrArg
	}
	return l, api.OK
}

func member(l []api.Account, user, group string) bool {
	u, g := find(l, user), find(l, group)
	return u >= 0 && g >= 0 && (u == g || slices.Contains(l[g].Members, user))
}

func leads(l []api.Account, user, group string) bool {
	u, g := find(l, user), find(l, group)
	if u < 0 || g < 0 {
		return false
	}
	if l[g].Leader == "" {
		return member(l, user, group)
	}
	return l[g].Leader == user
}

func keyOf(l []api.Account, user string) string {
	if i := find(l, user); i >= 0 {
		return l[i].Key
	}
	return ""
}

func groupsOf(l []api.Account, user string) []string {
	var groups []string
	for _, a := range l {
		if member(l, user, a.Name) {
			groups = append(groups, a.Name)
		}
	}
	slices.SortFunc(groups, strings.Compare)
	return groups
}

func sameAccount(a, b api.Account) bool {
	return a.Name == b.Name && a.Leader == b.Leader && slices.Equal(a.Members, b.Members) && a.Key == b.Key
}

// parsed is a table of a text that is one.
func parsed(t *testing.T, text string) *users.Table {
	t.Helper()
	u, e, at := users.Parse(text)
	if u == nil || e != api.OK || at != 0 {
		t.Fatalf("Parse(%s): %v, %d, %d", short(text), u, e, at)
	}
	return u
}

// wantTable holds a table to what the model tells of these accounts: of everybody in it, and of some who are not.
func wantTable(t *testing.T, u *users.Table, l []api.Account) {
	t.Helper()
	if got := slices.Collect(u.Accounts()); !slices.EqualFunc(got, l, sameAccount) {
		t.Fatalf("Accounts: %q; want %q", got, l)
	}
	if got := u.Text(); got != textOf(l) {
		t.Fatalf("Text: %s; want %s", short(got), short(textOf(l)))
	}
	who := []string{"", "a", "nobody", ":", "a:", "a,b", "-", "\xff"}
	for _, a := range l {
		who = append(who, a.Name)
	}
	for _, user := range who {
		if got := u.Known(user); got != (find(l, user) >= 0) {
			t.Fatalf("%s: Known(%q): %v", short(textOf(l)), user, got)
		}
		if got := u.Key(user); got != keyOf(l, user) {
			t.Fatalf("%s: Key(%q): %q", short(textOf(l)), user, got)
		}
		if got := u.Groups(user); !slices.Equal(got, groupsOf(l, user)) {
			t.Fatalf("%s: Groups(%q): %q", short(textOf(l)), user, got)
		}
		for _, group := range who {
			if got := u.Member(user, group); got != member(l, user, group) {
				t.Fatalf("%s: Member(%q, %q): %v", short(textOf(l)), user, group, got)
			}
			if got := u.Leads(user, group); got != leads(l, user, group) {
				t.Fatalf("%s: Leads(%q, %q): %v", short(textOf(l)), user, group, got)
			}
		}
	}
}

// wantParse holds Parse of a text, and the table that it is, to the model.
func wantParse(t *testing.T, text string) {
	t.Helper()
	l, want, wantAt := parseOf(text)
	u, e, at := users.Parse(text)
	if e != want || at != wantAt || (u == nil) != (e != api.OK) {
		t.Fatalf("Parse(%s): %v, %d, %d; want %d, %d", short(text), u, e, at, want, wantAt)
	}
	if e == api.OK {
		wantTable(t, u, l)
	}
}

// wantRefused holds Parse to an error and its line.
func wantRefused(t *testing.T, text string, want api.Errno, wantAt int) {
	t.Helper()
	if u, e, at := users.Parse(text); u != nil || e != want || at != wantAt {
		t.Errorf("Parse(%s): %v, %d, %d; want %d, %d", short(text), u, e, at, want, wantAt)
	}
}

// wantPrint holds Print to an error, or to a text.
func wantPrint(t *testing.T, l []api.Account, want string, wantErr api.Errno) {
	t.Helper()
	if text, e := users.Print(l); text != want || e != wantErr {
		t.Fatalf("Print(%s): %s, %d; want %s, %d", short(fmt.Sprintf("%q", l)), short(text), e, short(want), wantErr)
	}
}

// edited is what comes of a line that a table takes.
func edited(t *testing.T, u *users.Table, line string) *users.Table {
	t.Helper()
	v, e := u.Edit(line)
	if v == nil || e != api.OK {
		t.Fatalf("%s: Edit(%s): %d", short(u.Text()), short(line), e)
	}
	return v
}

// wantNoEdit holds Edit to an error, and to changing nothing.
func wantNoEdit(t *testing.T, u *users.Table, line string, want api.Errno) {
	t.Helper()
	was := u.Text()
	if v, e := u.Edit(line); v != nil || e != want {
		t.Errorf("%s: Edit(%s): %v, %d; want %d", short(was), short(line), v, e, want)
	}
	if u.Text() != was {
		t.Errorf("Edit(%s) changed the table to %s", short(line), short(u.Text()))
	}
}

// some is a text of at most so many of these pieces.
func some(rnd *rand.Rand, most int, of ...string) string {
	s := ""
	for range rnd.Intn(most + 1) {
		s += of[rnd.Intn(len(of))]
	}
	return s
}

// each is every text of at most so many of these pieces.
func each(most int, of ...string) []string {
	all, last := []string{""}, []string{""}
	for range most {
		var next []string
		for _, s := range last {
			for _, piece := range of {
				next = append(next, s+piece)
			}
		}
		all, last = append(all, next...), next
	}
	return all
}

// someTable is accounts that are a table, of at most so many.
func someTable(rnd *rand.Rand, most int) []api.Account {
	names := []string{"a", "b", "ab", "-", "-a", "é", "z", "A", "😀", "adm", strings.Repeat("x", 32), "0"}
	rnd.Shuffle(len(names), func(i, j int) { names[i], names[j] = names[j], names[i] })
	names = names[:min(most, rnd.Intn(len(names)+1))]
	var l []api.Account
	for _, name := range names {
		l = append(l, someAccount(rnd, name, names))
	}
	return l
}

// someAccount is one whose leader and members are of these names.
func someAccount(rnd *rand.Rand, name string, of []string) api.Account {
	a := api.Account{Name: name, Key: some(rnd, 3, "k", "#", ",", "/", "~", "!", "0")}
	for _, i := range rnd.Perm(len(of)) {
		if rnd.Intn(3) == 0 {
			a.Members = append(a.Members, of[i])
		}
		if rnd.Intn(2*len(of)) == 0 {
			a.Leader = of[i]
		}
	}
	return a
}

// lineOf is an account's line, without the newline.
func lineOf(a api.Account) string { return strings.TrimSuffix(textOf([]api.Account{a}), "\n") }

func someBytes(rnd *rand.Rand) string {
	b := make([]byte, rnd.Intn(12))
	for i := range b {
		b[i] = byte(rnd.Intn(1 << (1 + rnd.Intn(8))))
	}
	return string(b)
}

func short(s string) string {
	if len(s) > 200 {
		return fmt.Sprintf("%q.. (%d bytes)", s[:200], len(s))
	}
	return strconv.Quote(s)
}
