package auth

import (
	"strconv"
	"strings"
)

const (
	greeting   = "verger1 "
	newline    = "\n"
	base       = 16
	bits       = 64
	digits     = 16 // of a number
	answerSize = 2*digits + len(newline)
)

// What a line's sum is for: so that none of the two is good as the other.
const (
	forAnswer = 1 + iota
	forProof
)

// exchange is what both sides have to know, so that their lines meet.
type exchange struct {
	key, user, tree string
	ours            uint64
}

func helloOf(ours uint64) string {
	return greeting + written(ours) + newline
}

func (x exchange) answer(theirs uint64) string {
	return written(theirs) + x.sum(forAnswer, theirs) + newline
}

func (x exchange) proof(theirs uint64) string {
	return x.sum(forProof, theirs) + newline
}

func (x exchange) sum(what, theirs uint64) string {
	return written(Sum(x.key, what, x.ours, theirs, Sum(x.user), Sum(x.tree)))
}

// written is a number with noughts ahead.
func written(n uint64) string {
	s := strconv.FormatUint(n, base)
	return strings.Repeat("0", digits-len(s)) + s
}

// oursIn is the number of a hello. What is read may be written in another way, too: so the line is held to what the number's hello is.
func oursIn(line string) (uint64, bool) {
	s := strings.TrimSuffix(strings.TrimPrefix(line, greeting), newline)
	ours, err := strconv.ParseUint(s, base, bits)
	if err != nil || line != helloOf(ours) {
		return 0, false
	}
	return ours, true
}

// theirsIn is the number of a line that is as long as an answer, if it is the right one.
func (x exchange) theirsIn(line string) (uint64, bool) {
	theirs, err := strconv.ParseUint(line[:digits], base, bits)
	if err != nil || line != x.answer(theirs) {
		return 0, false
	}
	return theirs, true
}
