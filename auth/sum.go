package auth

// What a sum begins with and goes on by. The factor is odd: else a step could not be undone.
const (
	beginning = 0x6d5c8f3a20b71e47
	factor    = 0xa3c28bd6e1f7406d
	shift     = 29
)

// Sum is a key's sum over numbers.
func Sum(key string, l ...uint64) uint64 {
	h := uint64(beginning)
	for i := range len(key) { // bytes, whatever characters they are of
		h = step(h, uint64(key[i])+1)
	}
	h = step(h, uint64(len(key)))
	for _, n := range l {
		h = step(h, n)
	}
	return step(h, uint64(len(l)))
}

func step(h, n uint64) uint64 {
	h = (h ^ n) * factor
	return h ^ h>>shift
}

// Ours is the server's number of a connection's nth authentication.
func Ours(seed uint64, conn, nth int) uint64 {
	return Sum("", seed, uint64(conn), uint64(nth))
}
