package auth

import (
	"slices"

	"verger/api"
	"verger/users"
)

// exchangeOf is what the server knows of a Talk.
func exchangeOf(u *users.Table, t api.Talk) exchange {
	return exchange{keyOf(u, t.User), t.User, t.Tree, t.Ours}
}

func keyOf(u *users.Table, user string) string {
	if u == nil {
		return ""
	}
	return u.Key(user)
}

// copied is a Talk that shares no list with t.
func copied(t api.Talk) api.Talk {
	t.Heard = slices.Clone(t.Heard)
	return t
}

// moved is a Talk that comes to a step: what was said and heard at the one ahead of it is forgotten.
func moved(t api.Talk, to api.TalkStep, theirs uint64) api.Talk {
	return api.Talk{User: t.User, Tree: t.Tree, Ours: t.Ours, Theirs: theirs, Step: to}
}

// tell tells of a line what was not said of it yet, at most count bytes; behind the last one the Talk comes to the step next.
func tell(t api.Talk, line string, count int, next api.TalkStep) (api.Talk, []byte) {
	from := min(max(t.Said, 0), len(line))
	to := from + min(max(count, 0), len(line)-from)
	told := []byte(line[from:to])
	if to == len(line) {
		return moved(t, next, t.Theirs), told
	}
	t = copied(t)
	t.Said = to
	return t, told
}

// hear hears some more of an answer, which is not too long by it; once it is whole, it is the right one or not.
func hear(u *users.Table, t api.Talk, b []byte) api.Talk {
	t.Heard = slices.Concat(t.Heard, b)
	if len(t.Heard) < answerSize {
		return t
	}
	x := exchangeOf(u, t)
	theirs, right := x.theirsIn(string(t.Heard))
	// Where the table has lost the key, there is nothing that could be shown.
	if !right || x.key == "" {
		return moved(t, api.TalkDead, 0)
	}
	return moved(t, api.TalkProof, theirs)
}
