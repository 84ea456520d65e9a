package stat

import (
	"strconv"
	"strings"

	"verger/api"
)

// letter is what one place of a mode's text tells: a bit's sign, or that it is not set.
type letter struct {
	sign byte
	bit  uint32
}

const noSign = '-'

// letters are the places of a mode's text, in their order.
func letters() []letter {
	return []letter{
		{'d', api.ModeDir}, {'a', api.ModeAppend}, {'l', api.ModeExcl}, {'t', api.ModeTmp},
		{'r', 0400}, {'w', 0200}, {'x', 0100},
		{'r', 0040}, {'w', 0020}, {'x', 0010},
		{'r', 0004}, {'w', 0002}, {'x', 0001},
	}
}

// Mode is a mode as a text.
func Mode(mode uint32) string {
	var text strings.Builder
	others := mode
	for _, l := range letters() {
		if mode&l.bit == 0 {
			text.WriteByte(noSign)
		} else {
			text.WriteByte(l.sign)
		}
		others &^= l.bit
	}
	if others != 0 {
		text.WriteString("+" + strconv.FormatUint(uint64(others), 16))
	}
	return text.String()
}

// ParseMode reads such a text.
func ParseMode(text string) (uint32, api.Errno) {
	signs, others, _ := strings.Cut(text, "+")
	mode := lettered(signs) | numbered(others)
	// Much that is in another form was read so far: the one form is just what Mode writes.
	if Mode(mode) != text {
		return 0, api.ErrStatMode
	}
	return mode, api.OK
}

// lettered is the bits whose signs stand at their places.
func lettered(signs string) uint32 {
	var mode uint32
	for i, l := range letters() {
		if i < len(signs) && signs[i] == l.sign {
			mode |= l.bit
		}
	}
	return mode
}

// numbered is the bits that a hexadecimal number tells; none, if it is no such number.
func numbered(digits string) uint32 {
	n, err := strconv.ParseUint(digits, 16, 32)
	if err != nil {
		return 0
	}
	return uint32(n)
}
