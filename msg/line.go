package msg

import (
	"strconv"
	"strings"

	"verger/api"
	"verger/wire"
)

// reading is a line that is read from the left, part by part.
type reading struct {
	line string
	at   int // where the next part begins
}

// place is where the part should begin that is not as it must be: with it a reading is given up.
type place int

func (l *reading) fail() { panic(place(l.at)) }

func (l *reading) rest() string { return l.line[l.at:] }

func (l *reading) sees(word string) bool { return strings.HasPrefix(l.rest(), word) }

// word reads a word that is fixed.
func (l *reading) word(word string) {
	if !l.sees(word) {
		l.fail()
	}
	l.at += len(word)
}

// end says that nothing may be left.
func (l *reading) end() {
	if l.rest() != "" {
		l.fail()
	}
}

// kind reads a kind's name.
func (l *reading) kind() api.Kind {
	letters := longest(l.rest(), isLetter)
	kind, known := Kind(letters)
	if !known {
		l.fail()
	}
	l.at += len(letters)
	return kind
}

// number reads a number that is at most so great.
func (l *reading) number(most uint64) uint64 {
	digits := longest(l.rest(), isDigit)
	n, err := strconv.ParseUint(digits, 10, 64)
	if err != nil || n > most || strconv.FormatUint(n, 10) != digits {
		l.fail()
	}
	l.at += len(digits)
	return n
}

// data reads bytes, two digits for each.
func (l *reading) data() []byte {
	digits := longest(l.rest(), isHex)
	if len(digits)%2 != 0 {
		l.fail()
	}
	l.at += len(digits)
	var b []byte
	for i := 0; i < len(digits); i += 2 {
		b = append(b, byteOf(digits[i:i+2]))
	}
	return b
}

// text reads a text in quotes.
func (l *reading) text() string {
	end := quotesEnd(l.rest())
	if end == 0 {
		l.fail()
	}
	inQuotes := l.rest()[:end]
	s := unquoted(inQuotes[1 : end-1])
	// Much that is in another form was read so far: the one form is just what quoted writes.
	if !wire.Good(s) || quoted(s) != inQuotes {
		l.fail()
	}
	l.at += end
	return s
}

// longest is the longest row of such characters at the front of s.
func longest(s string, such func(c rune) bool) string {
	for i, c := range s {
		if !such(c) {
			return s[:i]
		}
	}
	return s
}

func isLetter(c rune) bool { return 'A' <= c && c <= 'Z' || 'a' <= c && c <= 'z' }

func isDigit(c rune) bool { return '0' <= c && c <= '9' }

func isHex(c rune) bool { return isDigit(c) || 'a' <= c && c <= 'f' }

// quotesEnd is how many bytes the text in quotes has at the front of s, the quotes too; 0, if none stands there.
func quotesEnd(s string) int {
	between, ok := strings.CutPrefix(s, `"`)
	if !ok {
		return 0
	}
	escaped := false
	for i, c := range between {
		switch {
		case escaped:
			escaped = false
		case c == '\\':
			escaped = true
		case c == '"':
			return i + 2
		}
	}
	return 0
}

// quoted is a text as it stands in a line.
func quoted(s string) string {
	var line strings.Builder
	line.WriteByte('"')
	for _, c := range s {
		switch {
		case c == '"' || c == '\\':
			line.WriteString(`\` + string(c))
		case c < 0x20 || c == 0x7f:
			line.WriteString(byteSign + hexOf([]byte{byte(c)}))
		default:
			line.WriteRune(c)
		}
	}
	line.WriteByte('"')
	return line.String()
}

// unquoted is the text that stands between these quotes; of what quoted never makes it is anything.
func unquoted(between string) string {
	var s strings.Builder
	sign := "" // as much as was read of what stands for one character
	for _, c := range between {
		sign += string(c)
		if isWhole(sign) {
			s.WriteString(meant(sign))
			sign = ""
		}
	}
	return s.String()
}

// byteSign is how the sign begins that stands for a byte; two digits are behind it.
const byteSign = `\x`

func isWhole(sign string) bool {
	if strings.HasPrefix(sign, byteSign) {
		return len(sign) >= len(byteSign)+2
	}
	return sign != `\`
}

// meant is the character that a whole sign stands for.
func meant(sign string) string {
	if digits, ok := strings.CutPrefix(sign, byteSign); ok {
		return string(rune(byteOf(digits)))
	}
	return strings.TrimPrefix(sign, `\`)
}

// hexOf is two digits for each byte.
func hexOf(b []byte) string {
	const digits = "0123456789abcdef"
	var s strings.Builder
	for _, n := range b {
		s.WriteByte(digits[n>>4])
		s.WriteByte(digits[n&15])
	}
	return s.String()
}

// byteOf is the byte of which hexOf makes these two digits; 0, if it makes them of none.
func byteOf(digits string) byte {
	n, err := strconv.ParseUint(digits, 16, 8)
	if err != nil {
		return 0
	}
	return byte(n)
}
