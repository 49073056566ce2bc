// Package small has numbers that what is known has, few beside each other or at its ends, for the tests of the layers above num; none of these calls it.
package small

import (
	"math"
	"slices"

	"halberd/api"
	"halberd/num"
	"halberd/samples"
	"halberd/tnum"
)

// Size is how many numbers a window has.
const Size = 8

// Windows tells the first number of each; most windows have numbers on both sides of an edge, their places 3 and 4.
func Windows() []uint64 {
	return []uint64{0, math.MaxUint64 - 3, 1<<31 - 4, 1<<32 - 4, 1<<63 - 4}
}

// Known is what is known of numbers, and which of a window it has, by their places there.
type Known struct {
	api.Num
	Had []int
}

// In tells what has patterns and bounds in a window, from a place to another one, without a sign, or with one, where they don't go round there.
func In(window uint64, ends ...[2]int) []Known {
	var l []Known
	for _, bits := range []api.Tnum{tnum.All(), {Value: 1, Mask: math.MaxUint64 - 1}, {Value: 2, Mask: math.MaxUint64 - 3}, {Mask: math.MaxUint64 - 2}} {
		for _, e := range ends {
			l = append(l, bounded(bits, window, e)...)
		}
	}
	return slices.DeleteFunc(l, func(k Known) bool { return len(k.Had) == 0 })
}

// bounded tells what has bounds without a sign, what has them with one, and what follows from these (of bounds that go round: all numbers).
func bounded(bits api.Tnum, window uint64, ends [2]int) []Known {
	lo, hi := window+uint64(ends[0]), window+uint64(ends[1])
	x, y := num.All(), num.All()
	x.Bits, x.ULo, x.UHi = bits, lo, hi
	y.Bits, y.SLo, y.SHi = bits, int64(lo), int64(hi)
	z, _ := num.Refine(y)
	return []Known{knownOf(x, window), knownOf(y, window), knownOf(z, window)}
}

func knownOf(x api.Num, window uint64) Known {
	k := Known{Num: x}
	for i := range Size {
		if num.Has(x, window+uint64(i)) {
			k.Had = append(k.Had, i)
		}
	}
	return k
}

// Ones tells the numbers of a window, each as the only one.
func Ones(window uint64) []Known {
	var l []Known
	for i := range Size {
		l = append(l, knownOf(num.Const(window+uint64(i)), window))
	}
	return l
}

// Some tells up to six numbers that are had, of those near and n; the least and the greatest are among them.
func Some(x api.Num, n uint64) []uint64 {
	l := slices.DeleteFunc(append(samples.Near(x), n), func(n uint64) bool { return !num.Has(x, n) })
	slices.Sort(l)
	l = slices.Compact(l)
	if n := len(l); n > 6 {
		l = []uint64{l[0], l[1], l[n/3], l[n/2], l[n-2], l[n-1]}
	}
	return l
}
