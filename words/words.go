// Package words is layer 1: see shared/doc/01-words.md.
package words

func IsSize(n int) bool {
	return n == 1 || n == 2 || n == 4 || n == 8
}

func Zext(x uint64, n int) uint64 {
	if !IsSize(n) {
		return x
	}
	return x & Low(8*n)
}

func Sext(x uint64, n int) uint64 {
	if !IsSize(n) {
		return x
	}
	above := 64 - 8*n
	// Only a number with a sign is shifted to the right with copies of its highest bit.
	return uint64(int64(x<<above) >> above)
}

func Load(b []byte, at, n int) (uint64, bool) {
	if !there(b, at, n) {
		return 0, false
	}
	var x uint64
	for i := range n {
		x |= uint64(b[at+i]) << (8 * i)
	}
	return x, true
}

func Store(b []byte, at, n int, x uint64) bool {
	if !there(b, at, n) {
		return false
	}
	for i := range n {
		b[at+i] = byte(x >> (8 * i))
	}
	return true
}

func there(b []byte, at, n int) bool {
	// at+n could wrap round, so at is held against what is left.
	return IsSize(n) && at >= 0 && at <= len(b)-n
}

func Low(n int) uint64 {
	if n < 1 {
		return 0
	}
	if n > 63 {
		return ^uint64(0)
	}
	return 1<<n - 1
}
