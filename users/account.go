package users

import (
	"strings"

	"verger/api"
	"verger/wire"
)

const (
	between = ":" // fields
	comma   = "," // between members
	fields  = 4
)

// accountOf reads a line that is an account.
func accountOf(line string) api.Account {
	l := strings.Split(line, between)
	if len(l) != fields {
		giveUp(api.ErrUsersLine)
	}
	a := api.Account{Name: l[0], Leader: l[1], Members: membersOf(l[2]), Key: l[3]}
	mustHaveForm(a)
	return a
}

// membersOf are the pieces of a third field. (Of an empty one Split would make a piece.)
func membersOf(field string) []string {
	if field == "" {
		return nil
	}
	return strings.Split(field, comma)
}

// lineOf writes an account.
func lineOf(a api.Account) string {
	return strings.Join([]string{a.Name, a.Leader, strings.Join(a.Members, comma), a.Key}, between)
}

// mustHaveForm asks that what stands in an account can stand in a line.
func mustHaveForm(a api.Account) {
	mustBeName(a.Name)
	if a.Leader != "" {
		mustBeName(a.Leader)
	}
	for _, member := range a.Members {
		mustBeName(member)
	}
	if !isKey(a.Key) {
		giveUp(api.ErrUsersLine)
	}
}

func mustBeName(s string) {
	if !isName(s) {
		giveUp(api.ErrUsersLine)
	}
}

// isName tells whether somebody may be called so.
func isName(s string) bool {
	if s == "" || len(s) > api.MaxUser || !wire.Good(s) {
		return false
	}
	for _, c := range s {
		if c <= ' ' || c == 0x7f || strings.ContainsRune(":,#/", c) {
			return false
		}
	}
	return true
}

// isKey tells whether somebody's key may be this; the empty one is as good as any.
func isKey(s string) bool {
	for _, c := range s {
		if c <= ' ' || c > '~' || c == ':' {
			return false
		}
	}
	return len(s) <= api.MaxKey
}
