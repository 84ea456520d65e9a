package nodes

import "slices"

// rising is paths, the least one first.
type rising []uint64

// with has one more: a new path is greater than all ahead of it.
func (l rising) with(path uint64) rising {
	return append(l, path)
}

func (l rising) without(path uint64) rising {
	at, there := slices.BinarySearch(l, path)
	if !there {
		return l
	}
	return slices.Delete(l, at, at+1)
}

// after is the next greater path.
func (l rising) after(last uint64) (uint64, bool) {
	at, there := slices.BinarySearch(l, last)
	if there {
		at++
	}
	if at == len(l) {
		return 0, false
	}
	return l[at], true
}
