package tags

import (
	"slices"

	"verger/api"
)

// request is a request or a flush that has its tag.
type request struct {
	tag   uint16
	state api.TagState
	of    int // a flush: the request that it cancelled, found cancelled, or waits for; else 0
}

// refusal is why nothing can be begun with this tag and this id.
func (t *Table) refusal(tag uint16, id int) api.Errno {
	_, taken := t.tags[tag]
	switch {
	case id <= t.last:
		return api.ErrArg
	case tag == api.NoTag:
		return api.ErrTag
	case taken:
		return api.ErrTagUsed
	case len(t.tags) == t.most:
		return api.ErrTagFull
	}
	return api.OK
}

// take gives a tag to what begins now.
func (t *Table) take(id int, r request) {
	t.last = id
	t.tags[r.tag] = id
	t.requests[id] = r
}

// free takes the tag from what has it.
func (t *Table) free(id int) {
	delete(t.tags, t.requests[id].tag)
	delete(t.requests, id)
}

// move lets what is in one state go on to another; false, if it is in none or in another one.
func (t *Table) move(id int, from, to api.TagState) bool {
	r := t.requests[id]
	if r.state != from {
		return false
	}
	r.state = to
	t.requests[id] = r
	return true
}

// flushOf is the state in which a flush begins that finds what has this id (0: nothing), and the request that it is of.
func (t *Table) flushOf(id int) (api.TagState, int) {
	switch r := t.requests[id]; r.state {
	case api.TagOpen, api.TagCancelled:
		return api.TagFlushed, id
	case api.TagDecided:
		return api.TagFlush, id
	case api.TagFlush:
		// Who waits for one that waits is answered with it: behind the same request.
		return api.TagFlush, r.of
	}
	return api.TagFlushed, 0
}

// waitingFor are the flushes that wait for a request, in the order in which they were begun: that of their ids.
func (t *Table) waitingFor(id int) []int {
	return t.those(func(r request) bool { return r.state == api.TagFlush && r.of == id })
}

// those are the ids of all that are such, rising.
func (t *Table) those(such func(r request) bool) []int {
	var ids []int
	for id, r := range t.requests {
		if such(r) {
			ids = append(ids, id)
		}
	}
	slices.Sort(ids)
	return ids
}
