package users

import (
	"slices"
	"strings"

	"verger/api"
)

// without is the sign of a line that takes somebody away.
const without = "-"

// Edit is a table that is new: with an account more, or with another one in its place, or without one.
func (t *Table) Edit(line string) (made *Table, e api.Errno) {
	defer func() {
		if why := recover(); why != nil {
			made, e = nil, why.(api.Errno)
		}
	}()
	// Made anew of all accounts, the table is held to all that holds of one: that nobody is gone whom another one names, too.
	return tableOf(t.edited(line)), api.OK
}

// edited are the accounts as a line changes them.
func (t *Table) edited(line string) []api.Account {
	l := slices.Collect(t.Accounts())
	name, less := strings.CutPrefix(line, without)
	if less && isName(name) {
		at, known := t.places[name]
		if !known {
			giveUp(api.ErrUsersNone)
		}
		return slices.Delete(l, at, at+1)
	}
	a := accountOf(line)
	if at, known := t.places[a.Name]; known {
		l[at] = a
		return l
	}
	return append(l, a)
}
