package stat_test

import (
	"fmt"
	"math/rand"
	"strings"
	"testing"

	"verger/api"
	"verger/stat"
)

// bit is a bit that has a letter of its own.
type bit struct {
	n      uint32
	letter byte
}

func bitsInOrder() []bit {
	return []bit{{1 << 31, 'd'}, {1 << 30, 'a'}, {1 << 29, 'l'}, {1 << 26, 't'},
		{256, 'r'}, {128, 'w'}, {64, 'x'}, {32, 'r'}, {16, 'w'}, {8, 'x'}, {4, 'r'}, {2, 'w'}, {1, 'x'}}
}

const lettered = 0xe4000000 | 0x1ff

// modeText is the mode as a text, as the chapter says.
func modeText(mode uint32) string {
	text := ""
	for _, b := range bitsInOrder() {
		if mode&b.n != 0 {
			text += string(rune(b.letter))
		} else {
			text += "-"
		}
	}
	if mode&^lettered != 0 {
		text += fmt.Sprintf("+%x", mode&^lettered)
	}
	return text
}

// parseMode reads a mode's text letter by letter.
func parseMode(text string) (uint32, bool) {
	if len(text) < 13 {
		return 0, false
	}
	var mode uint32
	for i, b := range bitsInOrder() {
		if text[i] == b.letter {
			mode |= b.n
		} else if text[i] != '-' {
			return 0, false
		}
	}
	tail := text[13:]
	if tail == "" {
		return mode, true
	}
	if tail[0] != '+' || len(tail) < 2 || len(tail) > 9 || tail[1] == '0' {
		return 0, false
	}
	var others uint32
	for _, c := range tail[1:] {
		digit := strings.IndexRune("0123456789abcdef", c)
		if digit < 0 {
			return 0, false
		}
		others = others*16 + uint32(digit)
	}
	return mode | others, others&lettered == 0
}

// wantMode says that a number is written so, and read again.
func wantMode(t *testing.T, mode uint32, want string) {
	t.Helper()
	if text := stat.Mode(mode); text != want {
		t.Errorf("Mode(%#x): %q, want %q", mode, text, want)
	}
	if n, e := stat.ParseMode(want); n != mode || e != api.OK {
		t.Errorf("ParseMode(%q): %#x, %d; want %#x", want, n, e, mode)
	}
}

func wantNoMode(t *testing.T, text string) {
	t.Helper()
	if n, e := stat.ParseMode(text); n != 0 || e != api.ErrStatMode {
		t.Errorf("ParseMode(%q): %#x, %d; want ErrStatMode", text, n, e)
	}
}

func TestModeNamed(t *testing.T) {
	for mode, want := range map[uint32]string{
		0: "-------------", 0777: "----rwxrwxrwx", 0644: "----rw-r--r--", 0750: "----rwxr-x---", 0007: "----------rwx",
		api.ModeDir: "d------------", api.ModeAppend: "-a-----------", api.ModeExcl: "--l----------", api.ModeTmp: "---t---------",
		api.ModeAuth: "-------------+8000000", 0x10000000: "-------------+10000000", 0x200: "-------------+200", 0xe4000000 | 0777: "daltrwxrwxrwx",
		0xffffffff: "daltrwxrwxrwx+1bfffe00", 0x1bfffe00: "-------------+1bfffe00", api.ModeDir | api.ModeAuth | 0755: "d---rwxr-xr-x+8000000",
		0x80000a00: "d------------+a00", 0xabc00 | 1: "------------x+abc00",
	} {
		wantMode(t, mode, want)
	}
}

func TestModeEachBit(t *testing.T) {
	for i := range 32 {
		one := uint32(1) << i
		wantMode(t, one, modeText(one))
		wantMode(t, ^one, modeText(^one))
		for k := range 32 {
			wantMode(t, one|1<<k, modeText(one|1<<k))
		}
	}
}

// A mode is written as no other one is: all sets of the thirteen letters, with other bits and without.
func TestModeOneForm(t *testing.T) {
	of := map[string]uint32{}
	for set := range 1 << 13 {
		var mode uint32
		for i, b := range bitsInOrder() {
			if set&(1<<i) != 0 {
				mode |= b.n
			}
		}
		for _, more := range []uint32{0, 0x200, 0x400, 0x8000000, 0x10000000, 0x1bfffe00} {
			text := stat.Mode(mode | more)
			if text != modeText(mode|more) {
				t.Fatalf("Mode(%#x): %q", mode|more, text)
			}
			if n, e := stat.ParseMode(text); n != mode|more || e != api.OK {
				t.Fatalf("ParseMode(%q): %#x, %d", text, n, e)
			}
			if was, ok := of[text]; ok {
				t.Fatalf("%q: %#x and %#x", text, was, mode|more)
			}
			of[text] = mode | more
		}
	}
}

func TestModeMixed(t *testing.T) {
	rnd := rand.New(rand.NewSource(7))
	for range 50000 {
		mode := rnd.Uint32() & rnd.Uint32()
		wantMode(t, mode, modeText(mode))
	}
}

func TestParseModeWrong(t *testing.T) {
	const none, all = "-------------", "daltrwxrwxrwx"
	for _, bad := range []string{
		"", "-", "d", "rwxr-xr-x", none[1:], all[1:], all[:12], none + "-", all + "x", "-" + all,
		"d---rwxr-xr-x+0", none + "+", none + "+0", none + "+00000200", none + "+0200", none + "+0x200", none + "+x", none + "+g00", none + "+ 200", none + "+200 ",
		none + "+A00", none + "+2_00", none + "++200", none + "+-200", none + "+200+200", none + "-200", none + " 200", none + "200",
		none + "+1", none + "+1ff", none + "+201", none + "+80000000", none + "+80000200", none + "+4000000", none + "+20000000", none + "+40000000", all + "+1",
		none + "+100000000", none + "+100000200", none + "+fffffffffffffffff", none + "+" + strings.Repeat("0", 100), none + "+" + strings.Repeat("f", 70000), strings.Repeat("-", 70000),
		"+200" + none, "+8000000", " " + none, none + " ", none + "\n", none + "\x00", none + "+200\x00", "D------------", "----RWXRWXRWX",
		"a------------", "-d-----------", "----wr-------", "----xwrxwrxwr", "---s---------", "----r-s------", "-----r-------", "------------r", "–------------", "d———rwxr-xr-x", "\xff------------",
	} {
		wantNoMode(t, bad)
	}
}

// Each letter of a mode's text is put to each value that a byte can have, left out, and doubled.
func TestParseModeEachByte(t *testing.T) {
	check := func(text string) {
		if mode, ok := parseMode(text); ok {
			wantMode(t, mode, text)
		} else {
			wantNoMode(t, text)
		}
	}
	for _, text := range []string{"-------------", "daltrwxrwxrwx", "d---rwxr-xr-x", "----rw-r--r--+8000000", "-------------+1bfffe00", "daltrwxrwxrwx+200"} {
		check(text)
		for i := range text {
			check(text[:i])
			check(text[:i] + text[i+1:])
			check(text[:i+1] + text[i:])
			for n := range 256 {
				check(text[:i] + string([]byte{byte(n)}) + text[i+1:])
			}
		}
	}
}

func TestParseModeMixed(t *testing.T) {
	rnd := rand.New(rand.NewSource(8))
	const signs = "-daltrwx+0123456789abcdef"
	for range 50000 {
		text := []byte(modeText(rnd.Uint32()))
		for range rnd.Intn(3) {
			text[rnd.Intn(len(text))] = signs[rnd.Intn(len(signs))]
		}
		if mode, ok := parseMode(string(text)); ok {
			wantMode(t, mode, string(text))
		} else {
			wantNoMode(t, string(text))
		}
	}
}
