package names

import (
	"strings"
	"unicode/utf8"
)

// reading is a text that is read from the left: what is left of it.
type reading struct {
	left string
}

// giveUp is called where nothing can be read on: whoever is asked for the whole recovers it, and knows by which error to refuse it.
func giveUp() { panic("it cannot be read on") }

// ends tells whether nothing is left.
func (r *reading) ends() bool { return r.left == "" }

// sees tells whether one of these bytes comes next.
func (r *reading) sees(oneOf string) bool {
	return !r.ends() && strings.IndexByte(oneOf, r.left[0]) >= 0
}

// skips goes over the next byte, if it is one of these, and tells whether it was.
func (r *reading) skips(oneOf string) bool {
	is := r.sees(oneOf)
	if is {
		r.byte()
	}
	return is
}

// byte reads a byte, whichever it is.
func (r *reading) byte() byte {
	if r.ends() {
		giveUp()
	}
	b := r.left[0]
	r.left = r.left[1:]
	return b
}

// character reads a character of a good text, whichever it is.
func (r *reading) character() rune {
	if r.ends() {
		giveUp()
	}
	c, size := utf8.DecodeRuneInString(r.left)
	r.left = r.left[size:]
	return c
}
