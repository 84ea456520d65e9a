package names

import (
	"strings"

	"verger/api"
)

const (
	blanks = " \t"
	quote  = "'"
	escape = `\`
	digits = "0123456789abcdef"
)

// Quote is a word as it stands in a line.
func Quote(word string) string {
	if isPlain(word) {
		return word
	}
	var s strings.Builder
	s.WriteString(quote)
	for i := range len(word) {
		s.WriteString(inQuotes(word[i]))
	}
	s.WriteString(quote)
	return s.String()
}

// isPlain tells whether a word needs no quotes.
func isPlain(word string) bool {
	for i := range len(word) {
		if !isPlainByte(word[i]) {
			return false
		}
	}
	return word != ""
}

func isPlainByte(b byte) bool {
	return 'a' <= b && b <= 'z' || 'A' <= b && b <= 'Z' || '0' <= b && b <= '9' || strings.IndexByte("_-./:+,@%=~", b) >= 0
}

// inQuotes is a byte as it stands within quotes.
func inQuotes(b byte) string {
	itself := string(rune(b))
	switch {
	case b < 0x20 || b > 0x7e:
		return escape + "x" + string(digits[b>>4]) + string(digits[b&15])
	case itself == quote || itself == escape:
		return escape + itself
	}
	return itself
}

// Words are the words of a line.
func Words(line string) (words []string, e api.Errno) {
	defer func() {
		if recover() != nil {
			words, e = nil, api.ErrQuote
		}
	}()
	r := &reading{line}
	for r.skipBlanks(); !r.ends(); r.skipBlanks() {
		words = append(words, r.word())
	}
	return words, api.OK
}

func (r *reading) skipBlanks() { r.left = strings.TrimLeft(r.left, blanks) }

// word reads up to the next blank that stands in no quotes.
func (r *reading) word() string {
	var word []byte
	for !r.ends() && !r.sees(blanks) {
		if r.skips(quote) {
			word = append(word, r.quoted()...)
		} else {
			word = append(word, r.byte())
		}
	}
	return string(word)
}

// quoted reads what stands behind the sign by which quotes begin, up to the one by which they end.
func (r *reading) quoted() []byte {
	var b []byte
	for !r.skips(quote) {
		if r.skips(escape) {
			b = append(b, r.escaped())
		} else {
			b = append(b, r.byte())
		}
	}
	return b
}

// escaped reads what stands for a byte behind the sign that it is another one than it looks.
func (r *reading) escaped() byte {
	if r.sees(quote + escape) {
		return r.byte()
	}
	if !r.skips("x") {
		giveUp()
	}
	high := r.digit()
	return high<<4 | r.digit()
}

func (r *reading) digit() byte {
	n := strings.IndexByte(digits, r.byte())
	if n < 0 {
		giveUp()
	}
	return byte(n)
}
