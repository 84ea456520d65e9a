// Package wire is layer 1: numbers, texts and parts as bytes. See shared/doc/01-wire.md.
package wire

import (
	"math/bits"
	"strings"
	"unicode/utf8"
)

// maxCount is the most that a count of two bytes can say.
const maxCount = 65535

// countSize is how many bytes such a count has itself.
const countSize = 2

// number is what can be written and read as bytes, the lowest one first.
type number interface {
	uint8 | uint16 | uint32 | uint64
}

// widthOf is how many bytes a number of this type has: as many as hold all its bits.
func widthOf[N number]() int {
	return bits.Len64(uint64(^N(0))) / 8
}

// Good tells whether s is a text of the protocol.
func Good(s string) bool {
	_, bad := firstBad(s)
	return !bad
}

// firstBad finds the first piece of s that may not stand in a text, and whether there is one.
func firstBad(s string) (int, bool) {
	for i, c := range s {
		if c == 0 || c == utf8.RuneError && !spellsRuneError(s[i:]) {
			return i, true
		}
	}
	return 0, false
}

// spellsRuneError tells the character U+FFFD, which is as good as any, from the bytes that are none: a range over a string gives that same rune for both.
func spellsRuneError(s string) bool {
	return strings.HasPrefix(s, string(utf8.RuneError))
}

// Cut is the longest beginning of s that has at most so many bytes and ends between two pieces.
func Cut(s string, most int) string {
	if len(s) <= most {
		return s
	}
	end := 0
	for i := range s {
		if i > most {
			break
		}
		end = i
	}
	return s[:end]
}
