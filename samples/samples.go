// Package samples has numbers, their orders, what is known of them, bytes, texts, objects, and contexts, for the tests of the layers' packages; none of these calls it.
package samples

import (
	"bytes"
	"math"
	"math/bits"
	"slices"

	"halberd/api"
)

// next is the same for the same seed, as a test that fails must fail once more.
func next(seed *uint64) uint64 {
	*seed = *seed*6364136223846793005 + 1442695040888963407
	return *seed
}

// Draw tells numbers that follow no plain pattern.
func Draw(seed *uint64) uint64 {
	x := next(seed)
	return bits.RotateLeft64(x^x>>29, 17)
}

// Below draws one of the n numbers from 0 on.
func Below(seed *uint64, n int) int {
	return int(next(seed) >> 33 % uint64(n))
}

// Bytes draws so many; none is 0, so that they are seen beside those that were never written.
func Bytes(length int, seed *uint64) []byte {
	b := make([]byte, length)
	for i := range b {
		b[i] = byte(1 + Below(seed, 255))
	}
	return b
}

// Orders tells all orders of the numbers below n.
func Orders(n int) [][]int {
	if n == 0 {
		return [][]int{nil}
	}
	var l [][]int
	for _, o := range Orders(n - 1) {
		for at := range n {
			l = append(l, slices.Insert(slices.Clone(o), at, n-1))
		}
	}
	return l
}

// Shuffled draws one order of the numbers below n.
func Shuffled(n int, seed *uint64) []int {
	l := make([]int, n)
	for k := range l {
		l[k] = k
	}
	for k := range l {
		j := k + Below(seed, n-k)
		l[k], l[j] = l[j], l[k]
	}
	return l
}

// NoSizes has all from -9 to 70 that are no size in bytes, and numbers far off, whose low bytes are a size, or which times 8 go round.
func NoSizes() []int {
	l := []int{
		math.MinInt, math.MinInt + 1, math.MinInt + 4, math.MinInt + 8, -1 << 61, -1<<61 + 1, -1 << 32,
		1<<8 + 1, 1<<32 + 4, 1 << 60, 1 << 61, 1<<61 + 1, math.MaxInt - 7, math.MaxInt,
	}
	for n := -9; n <= 70; n++ {
		if n != 1 && n != 2 && n != 4 && n != 8 {
			l = append(l, n)
		}
	}
	return l
}

// Outside has numbers that are not from first to last, which are near 0: near, far, with low bytes that may be, and with products that go round.
func Outside(first, last int) []int {
	l := []int{
		math.MinInt, math.MinInt + 1, math.MinInt + 8, -1 << 62, -1 << 61, -1 << 32, -1<<32 + 1, -256, -255,
		256, 257, 1<<16 + 1, 1 << 31, 1 << 32, 1<<32 + 1, 1 << 59, 1 << 60, 1 << 61, 1 << 62, math.MaxInt - 1, math.MaxInt,
	}
	for i := range 64 {
		l = append(l, first-1-i, last+1+i)
	}
	return slices.DeleteFunc(l, func(n int) bool { return n >= first && n <= last })
}

// Ends has the least and the greatest numbers, and those about 0 and 2^32.
func Ends() []int {
	return []int{math.MinInt, math.MinInt + 1, -1 << 32, -2, -1, 0, 1, 2, 1 << 32, 1<<32 + 1, math.MaxInt - 1, math.MaxInt}
}

// NoFlags has numbers above 2: near, far, and with low bits that may be.
func NoFlags() []uint64 {
	l := []uint64{1<<63 + 1, 1<<63 + 2, math.MaxUint64, math.MaxUint64 - 1}
	for i := 2; i < 64; i++ {
		l = append(l, 1<<i-1, 1<<i, 1<<i+1, 1<<i+2)
	}
	return l
}

// UpTo has the numbers from 1 on.
func UpTo(most int) []int {
	var l []int
	for i := range most {
		l = append(l, i+1)
	}
	return l
}

// OtherLengths has lists of lengths other than that of b, which has at least one byte, nil and empty among them; most begin as b does.
func OtherLengths(b []byte) [][]byte {
	l := [][]byte{nil, {}, b[:0], b[:len(b)-1], append(bytes.Clone(b), 0), append(bytes.Clone(b), b...), make([]byte, 256+len(b)), append(bytes.Clone(b), make([]byte, 1<<16)...)}
	for n := range 40 {
		if n != len(b) {
			l = append(l, slices.Concat(b, make([]byte, 40))[:n])
		}
	}
	return l
}

// Beside has objects that are almost the same as one, and, of one with a 0, itself.
func Beside(key api.Key) []api.Key {
	return []api.Key{
		{Id: key.Id, Gen: key.Gen + 1}, {Id: key.Id, Gen: key.Gen - 1}, {Id: key.Id + 1, Gen: key.Gen}, {Id: key.Id - 1, Gen: key.Gen},
		{Id: key.Gen, Gen: key.Id}, {Id: -key.Id, Gen: key.Gen}, {Id: key.Id, Gen: -key.Gen}, {Id: key.Id + 1, Gen: key.Gen - 1},
		{Id: key.Id + 1<<32, Gen: key.Gen}, {Id: key.Id, Gen: key.Gen + 1<<32}, {Id: key.Id}, {Gen: key.Gen}, {},
	}
}

// TurnAll turns each byte of a list, so that whoever shares it is seen.
func TurnAll(b []byte) {
	for i := range b {
		b[i] ^= 0xFF
	}
}
