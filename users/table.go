package users

import (
	"iter"
	"slices"
	"strings"

	"verger/api"
)

// Table is who there is, and who belongs to whom. It never changes once it is made.
type Table struct {
	accounts []api.Account
	places   map[string]int // of each Name, where its account stands
	belongs  map[bond]struct{}
}

// bond says that a user is one of a group's Members.
type bond struct {
	user, group string
}

func newTable() *Table {
	return &Table{places: map[string]int{}, belongs: map[bond]struct{}{}}
}

// tableOf makes a table of accounts that may be of any form.
func tableOf(l []api.Account) *Table {
	for _, a := range l {
		mustHaveForm(a)
	}
	t := newTable()
	for _, a := range l {
		t.add(a)
	}
	for _, a := range l {
		t.mustKnow(a)
	}
	t.mustFit()
	return t
}

// add puts an account behind the others.
func (t *Table) add(a api.Account) {
	if t.Known(a.Name) {
		giveUp(api.ErrUsersTwice)
	}
	for _, member := range a.Members {
		b := bond{member, a.Name}
		if _, twice := t.belongs[b]; twice {
			giveUp(api.ErrUsersTwice)
		}
		t.belongs[b] = struct{}{}
	}
	t.places[a.Name] = len(t.accounts)
	t.accounts = append(t.accounts, copied(a))
}

// copied is an account that shares no list with a.
func copied(a api.Account) api.Account {
	a.Members = slices.Clone(a.Members)
	return a
}

// mustKnow asks that there is everybody whom an account names.
func (t *Table) mustKnow(a api.Account) {
	if a.Leader != "" && !t.Known(a.Leader) {
		giveUp(api.ErrUsersNone)
	}
	for _, member := range a.Members {
		if !t.Known(member) {
			giveUp(api.ErrUsersNone)
		}
	}
}

// mustFit asks that the table's text is none too long.
func (t *Table) mustFit() {
	if len(t.Text()) > api.MaxUsers {
		giveUp(api.ErrArg)
	}
}

// Text is the table as lines.
func (t *Table) Text() string {
	var text strings.Builder
	for a := range t.Accounts() {
		text.WriteString(lineOf(a) + newline)
	}
	return text.String()
}

// Accounts goes through the accounts, in their order.
func (t *Table) Accounts() iter.Seq[api.Account] {
	return func(yield func(api.Account) bool) {
		for _, a := range t.accounts {
			if !yield(copied(a)) {
				return
			}
		}
	}
}

// account is that of a name, if there is one.
func (t *Table) account(name string) (api.Account, bool) {
	at, known := t.places[name]
	if !known {
		return api.Account{}, false
	}
	return t.accounts[at], true
}

// Known tells whether there is an account of that Name.
func (t *Table) Known(name string) bool {
	_, known := t.places[name]
	return known
}

// Member tells whether a user belongs to a group.
func (t *Table) Member(user, group string) bool {
	_, belongs := t.belongs[bond{user, group}]
	return belongs || user == group && t.Known(user)
}

// Leads tells whether a user leads a group; where nobody is named as its leader, whoever belongs to it does.
func (t *Table) Leads(user, group string) bool {
	a, _ := t.account(group)
	if a.Leader != "" {
		return user == a.Leader
	}
	return t.Member(user, group)
}

// Key is a user's key, "" for none.
func (t *Table) Key(user string) string {
	a, _ := t.account(user)
	return a.Key
}

// Groups are the groups to which a user belongs, rising.
func (t *Table) Groups(user string) []string {
	var groups []string
	for a := range t.Accounts() {
		if t.Member(user, a.Name) {
			groups = append(groups, a.Name)
		}
	}
	slices.Sort(groups)
	return groups
}
