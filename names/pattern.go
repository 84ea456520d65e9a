package names

import (
	"verger/api"
	"verger/wire"
)

// maxPattern is how many bytes a pattern has at most.
const maxPattern = 255

// piece is a piece of a pattern: a character, or a row of characters, each of which lies in one of the ranges; with but, in none of them (of which there may be none: then it is any).
type piece struct {
	row    bool
	but    bool
	ranges []span
}

// span is the characters from one to another, both ends included.
type span struct {
	first, last rune
}

// Match holds a name against a pattern.
func Match(pattern, name string) (is bool, e api.Errno) {
	defer func() {
		if recover() != nil {
			is, e = false, api.ErrPattern
		}
	}()
	pieces := piecesOf(pattern)
	return wire.Good(name) && matches(pieces, name), api.OK
}

// piecesOf reads a pattern.
func piecesOf(pattern string) []piece {
	if len(pattern) > maxPattern || !wire.Good(pattern) {
		giveUp()
	}
	r := &reading{pattern}
	var pieces []piece
	for !r.ends() {
		pieces = append(pieces, r.piece())
	}
	return pieces
}

func (r *reading) piece() piece {
	switch {
	case r.skips("*"):
		return piece{row: true, but: true}
	case r.skips("?"):
		return piece{but: true}
	case r.skips("["):
		return r.class()
	}
	c := r.meant()
	return piece{ranges: []span{{c, c}}}
}

// class reads what stands behind the sign by which a class begins.
func (r *reading) class() piece {
	p := piece{but: r.skips("^")}
	p.ranges = append(p.ranges, r.span())
	for !r.skips("]") {
		p.ranges = append(p.ranges, r.span())
	}
	return p
}

func (r *reading) span() span {
	first := r.one()
	last := first
	if r.skips("-") {
		last = r.one()
	}
	if last < first {
		giveUp()
	}
	return span{first, last}
}

// one reads a character as it stands in a class.
func (r *reading) one() rune {
	if r.sees("]-") {
		giveUp()
	}
	return r.meant()
}

// meant reads a character that is meant itself, with or without a sign ahead that says so.
func (r *reading) meant() rune {
	r.skips(`\`)
	return r.character()
}

// takes tells whether c can be the piece, or one of its row.
func (p piece) takes(c rune) bool {
	for _, s := range p.ranges {
		if s.first <= c && c <= s.last {
			return !p.but
		}
	}
	return p.but
}

// reach says of each number of pieces whether the characters gone through so far can be just the first so many. All the ways in which rows can fall are gone at one time: whichever name it is, none is gone back.
type reach [maxPattern + 1]bool

// matches tells whether all of a name is what the pieces are, one behind the other.
func matches(pieces []piece, name string) bool {
	var so reach
	so[0] = true
	so = so.withEmptyRows(pieces)
	for _, c := range name {
		so = so.behind(pieces, c).withEmptyRows(pieces)
	}
	return so[len(pieces)]
}

// behind is how far one comes by one character more.
func (so reach) behind(pieces []piece, c rune) reach {
	var next reach
	for i, p := range pieces {
		if !so[i] || !p.takes(c) {
			continue
		}
		if p.row {
			next[i] = true // the row may go on
		} else {
			next[i+1] = true
		}
	}
	return next
}

// withEmptyRows is how far one comes by no character: a row may have none, or none any more.
func (so reach) withEmptyRows(pieces []piece) reach {
	for i, p := range pieces {
		so[i+1] = so[i+1] || so[i] && p.row
	}
	return so
}
