// Package samples has numbers, and what is known of them, for the tests of the layers' packages; none of these calls it.
package samples

import (
	"math"
	"math/bits"
)

// next is the same for the same seed, as a test that fails must fail once more.
func next(seed *uint64) uint64 {
	*seed = *seed*6364136223846793005 + 1442695040888963407
	return *seed
}

// Draw tells numbers that follow no plain pattern.
func Draw(seed *uint64) uint64 {
	x := next(seed)
	return bits.RotateLeft64(x^x>>29, 17)
}

// Below draws one of the n numbers from 0 on.
func Below(seed *uint64, n int) int {
	return int(next(seed) >> 33 % uint64(n))
}

// NoSizes has all from -9 to 70 that are no size in bytes, and numbers far off, whose low bytes are a size, or which times 8 go round.
func NoSizes() []int {
	l := []int{
		math.MinInt, math.MinInt + 1, math.MinInt + 4, math.MinInt + 8, -1 << 61, -1<<61 + 1, -1 << 32,
		1<<8 + 1, 1<<32 + 4, 1 << 60, 1 << 61, 1<<61 + 1, math.MaxInt - 7, math.MaxInt,
	}
	for n := -9; n <= 70; n++ {
		if n != 1 && n != 2 && n != 4 && n != 8 {
			l = append(l, n)
		}
	}
	return l
}
