package locks

import (
	"maps"
	"slices"

	"verger/api"
)

func (t *Table) isWaiting(who int) bool {
	_, waits := t.waits[who]
	return waits
}

func (t *Table) holds(who int, l api.Lock) bool {
	_, holds := t.held[who][l]
	return holds
}

// rising is what somebody holds, the lowest first.
func (t *Table) rising(who int) []api.Lock {
	return slices.SortedFunc(maps.Keys(t.held[who]), Compare)
}

// Held is what somebody holds, rising.
func (t *Table) Held(who int) []api.Need {
	var held []api.Need
	for _, l := range t.rising(who) {
		held = append(held, api.Need{Lock: l, Alone: t.locks[l].alone})
	}
	return held
}

// Waits is what somebody waits for.
func (t *Table) Waits(who int) (api.Need, bool) {
	n, waits := t.waits[who]
	return n, waits
}

// Queue is who waits for a lock, in order.
func (t *Table) Queue(l api.Lock) []int {
	if k, there := t.locks[l]; there {
		return people(k.queue)
	}
	return nil
}

// Holders is who holds a lock, rising.
func (t *Table) Holders(l api.Lock) []int {
	if k, there := t.locks[l]; there {
		return slices.Sorted(maps.Keys(k.holders))
	}
	return nil
}

// Idle tells whether nobody holds anything.
func (t *Table) Idle() bool {
	return len(t.locks) == 0
}

// Stuck is who can never be let in, rising.
func (t *Table) Stuck() []int {
	left := t.clone()
	// Whoever leaves only makes room for others: in which order they do can't be seen in the end.
	leaving := slices.DeleteFunc(slices.Sorted(maps.Keys(left.held)), left.isWaiting)
	for len(leaving) > 0 {
		leaving = append(leaving[1:], left.Leave(leaving[0])...)
	}
	return slices.Sorted(maps.Keys(left.waits))
}

// clone is a table like this one.
func (t *Table) clone() *Table {
	c := New()
	for key, l := range t.locks {
		c.locks[key] = &lock{l.alone, maps.Clone(l.holders), slices.Clone(l.queue)}
	}
	for who, held := range t.held {
		c.held[who] = maps.Clone(held)
	}
	maps.Copy(c.waits, t.waits)
	return c
}
