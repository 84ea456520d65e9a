package msg

import (
	"strings"

	"verger/wire"
)

// field is one of the fields of an S (a message, or a record): its word in a line, and what is done for it.
type field[S any] struct {
	word  string
	may   func(of *S) bool
	write func(w *wire.Writer, of *S)
	read  func(r *wire.Reader, to *S)
	tell  func(of *S) string
	scan  func(l *reading, to *S)
	move  func(to, from *S)
}

// fieldAt is the field that lies in an S where in says, with values of this shape.
func fieldAt[S, V any](word string, s shape[V], in func(*S) *V) field[S] {
	return field[S]{
		word:  word,
		may:   func(of *S) bool { return s.may(*in(of)) },
		write: func(w *wire.Writer, of *S) { s.write(w, *in(of)) },
		read:  func(r *wire.Reader, to *S) { *in(to) = s.read(r) },
		tell:  func(of *S) string { return s.tell(*in(of)) },
		scan:  func(l *reading, to *S) { *in(to) = s.scan(l) },
		move:  func(to, from *S) { *in(to) = s.clone(*in(from)) },
	}
}

// mayBe tells whether all these fields are as they may be.
func mayBe[S any](fields []field[S], of *S) bool {
	for _, f := range fields {
		if !f.may(of) {
			return false
		}
	}
	return true
}

// tellAll tells each field with its word; ahead of the first one stands the sign ahead, of each other one a blank.
func tellAll[S any](ahead string, fields []field[S], of *S) string {
	var line strings.Builder
	for _, f := range fields {
		line.WriteString(ahead + f.word + "=" + f.tell(of))
		ahead = " "
	}
	return line.String()
}

// scanAll reads what tellAll tells.
func scanAll[S any](l *reading, ahead string, fields []field[S], to *S) {
	for _, f := range fields {
		l.word(ahead + f.word + "=")
		f.scan(l, to)
		ahead = " "
	}
}
