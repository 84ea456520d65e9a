package tags

import (
	"slices"

	"verger/api"
)

// reply is a message that is to be written.
type reply struct {
	m     api.Msg
	id    int
	apart bool // it answers nothing of the table, whatever its id is
}

// put puts a reply at the end of the row.
func (t *Table) put(r reply) {
	r.m = copied(r.m)
	t.row = append(t.row, r)
}

// putRflush puts a flush's answer at the end of the row.
func (t *Table) putRflush(id int) {
	t.put(reply{m: api.Msg{Kind: api.Rflush, Tag: t.requests[id].tag}, id: id})
}

// cutFirst takes the row's first one.
func (t *Table) cutFirst() reply {
	first := t.row[0]
	t.row[0] = reply{} // the place stays with the row for a while, what it had does not
	t.row = t.row[1:]
	return first
}

// written frees the tag of what is answered now, and by a flush that of the request that it took back.
func (t *Table) written(id int) {
	of := t.requests[id].of
	t.free(id)
	if t.requests[of].state == api.TagCancelled {
		t.free(of)
	}
}

// copied is a message that shares no list with m.
func copied(m api.Msg) api.Msg {
	m.Names, m.Qids, m.Data = slices.Clone(m.Names), slices.Clone(m.Qids), slices.Clone(m.Data)
	return m
}
