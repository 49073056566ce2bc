package samples

import (
	"math"

	"halberd/api"
)

const sign = 1 << 63

// Number draws one of any length, from 0 on, up to or down from 2^63, down from 2^64, or about 256, 2^16 and 2^32.
func Number(seed *uint64) uint64 {
	x := Draw(seed) >> (Draw(seed) % 64)
	switch Draw(seed) % 6 {
	case 0:
		x = -x
	case 1:
		x = sign - x
	case 2:
		x = sign + x
	case 3:
		x = 1<<(8<<(Draw(seed)%3)) - x%3
	}
	return x
}

// Around draws bounds that a number is within.
func Around(x uint64, seed *uint64) (uint64, uint64) {
	below, above := Number(seed), Number(seed)
	return x - min(x, below), x + min(math.MaxUint64-x, above)
}

func SignedAround(x int64, seed *uint64) (int64, int64) {
	// As if 2^63 were added to it: so numbers with a sign have the order of those without.
	lo, hi := Around(uint64(x)+sign, seed)
	return int64(lo - sign), int64(hi - sign)
}

// Known draws what is known of a number, which it has, but for every fourth, that may be empty in any way; bits may be in both Value and Mask.
func Known(seed *uint64) (api.Num, uint64) {
	n := Number(seed)
	x := api.Num{Bits: api.Tnum{Mask: math.MaxUint64}, UHi: math.MaxUint64, SLo: math.MinInt64, SHi: math.MaxInt64}
	parts := Draw(seed) % 8
	if parts&1 > 0 {
		x.Bits = api.Tnum{Value: n, Mask: Draw(seed) | Draw(seed)<<(Draw(seed)%64)}
	}
	if parts&2 > 0 {
		x.ULo, x.UHi = Around(n, seed)
	}
	if parts&4 > 0 {
		x.SLo, x.SHi = SignedAround(int64(n), seed)
	}
	if Draw(seed)%4 == 0 {
		x = turned(x, seed)
	}
	if Draw(seed)%4 > 0 {
		x.Bits.Value &^= x.Bits.Mask
	}
	return x, n
}

// turned draws one part of what is known anew, whatever the others are.
func turned(x api.Num, seed *uint64) api.Num {
	switch Draw(seed) % 5 {
	case 0:
		x.ULo = Number(seed)
	case 1:
		x.UHi = Number(seed)
	case 2:
		x.SLo = int64(Number(seed))
	case 3:
		x.SHi = int64(Number(seed))
	case 4:
		x.Bits.Value = Number(seed)
	}
	return x
}

// Near has numbers in and about what is known: at its bounds, at the ends of its pattern, at the ends of all numbers.
func Near(x api.Num) []uint64 {
	var l []uint64
	value, mask := x.Bits.Value&^x.Bits.Mask, x.Bits.Mask
	for _, n := range []uint64{x.ULo, x.UHi, uint64(x.SLo), uint64(x.SHi), value, value | mask, value | mask&sign, value | mask&^sign, 0, sign} {
		l = append(l, n-1, n, n+1, n&mask|value)
	}
	return l
}
