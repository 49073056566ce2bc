package narrow

import (
	"math"
	"slices"
	"testing"

	"halberd/api"
	"halberd/num"
)

const (
	ones  = math.MaxUint64
	sign  = 1 << 63
	low   = 1<<32 - 1
	least = math.MinInt64
	most  = math.MaxInt64
)

// known tells what is known as it is written, where nothing is followed from anything.
func known(value, mask, ulo, uhi uint64, slo, shi int64) api.Num {
	return api.Num{Bits: api.Tnum{Value: value, Mask: mask}, ULo: ulo, UHi: uhi, SLo: slo, SHi: shi}
}

func bitsOnly(value, mask uint64) api.Num { return known(value, mask, 0, ones, least, most) }

func within(lo, hi uint64) api.Num { return known(0, ones, lo, hi, least, most) }

func signed(lo, hi int64) api.Num { return known(0, ones, 0, ones, lo, hi) }

func odd() api.Num { return bitsOnly(1, ones-1) }

func all() api.Num { return num.All() }

func one(c uint64) api.Num { return num.Const(c) }

func minus(c uint64) api.Num { return num.Const(-c) }

func withoutSign() []byte {
	return []byte{api.Jeq, api.Jne, api.Jgt, api.Jge, api.Jlt, api.Jle, api.Jset}
}

func withSign() []byte {
	return []byte{api.Jsgt, api.Jsge, api.Jslt, api.Jsle}
}

func conditionNumbers() []byte { return append(withoutSign(), withSign()...) }

// byHand tells what is known ahead of a way, and behind it.
type byHand struct {
	name          string
	a, b          api.Num
	first, second api.Num
}

func ask(t *testing.T, op byte, wide, holds bool, l []byHand) {
	t.Helper()
	for _, c := range l {
		a, b, ok := Way(op, wide, c.a, c.b, holds)
		if a != c.first || b != c.second || !ok {
			t.Errorf("%s: Way(%#x, %v, %#x, %#x, %v): %#x, %#x, %v, not %#x, %#x", c.name, op, wide, c.a, c.b, holds, a, b, ok, c.first, c.second)
		}
	}
}

// asTold asks where nothing more is known, or, if it can't be so, what was known is given back.
func asTold(t *testing.T, op byte, wide, holds, can bool, l [][2]api.Num) {
	t.Helper()
	for _, c := range l {
		if a, b, ok := Way(op, wide, c[0], c[1], holds); a != c[0] || b != c[1] || ok != can {
			t.Errorf("Way(%#x, %v, %#x, %#x, %v): %#x, %#x, %v", op, wide, c[0], c[1], holds, a, b, ok)
		}
	}
}

func TestExamples(t *testing.T) { // P9.1
	ask(t, api.Jgt, true, true, []byHand{{"all above 5", all(), one(5), within(6, ones), one(5)}})
	ask(t, api.Jgt, true, false, []byHand{{"all not above 5", all(), one(5), num.Bounds(0, 5), one(5)}})
	asTold(t, api.Jeq, true, true, false, [][2]api.Num{{num.Bounds(0, 3), one(4)}})
}

func TestTheSame(t *testing.T) { // P9.1
	threes := known(3, ones-3, 3, ones, least+3, most)
	ask(t, api.Jeq, true, true, []byHand{
		{"bounds without a sign", within(0, 9), within(5, 20), num.Bounds(5, 9), num.Bounds(5, 9)},
		{"bounds with a sign", signed(-9, 2), signed(-4, 7), signed(-4, 2), signed(-4, 2)},
		{"bounds with a sign and without", within(0, 9), signed(-4, 3), num.Bounds(0, 3), num.Bounds(0, 3)},
		{"patterns", odd(), bitsOnly(2, ones-2), threes, threes},
		{"b has one number", all(), one(ones), one(ones), one(ones)},
		{"a has one number", minus(4), signed(-9, -2), minus(4), minus(4)},
		{"one end in common", num.Bounds(0, 5), num.Bounds(5, 9), one(5), one(5)},
		{"what Meet tells is refined once more", bitsOnly(1, ones-13), within(2, 4), one(3), one(3)},
		{"all", all(), all(), all(), all()},
	})
	asTold(t, api.Jeq, true, true, false, [][2]api.Num{
		{one(4), one(5)}, {num.Bounds(0, 4), num.Bounds(5, 9)}, {within(0, 9), signed(-9, -1)}, {signed(-9, -5), signed(-4, 7)}, {odd(), one(4)}, {one(4), odd()}, {bitsOnly(8, 3), within(0, 7)}, {one(0), one(sign)},
		{bitsOnly(0, ones-15), within(1, 2)}, // which Meet's second round finds
	})
}

func TestDifferent(t *testing.T) { // P9.1
	ask(t, api.Jne, true, true, []byHand{
		{"at ULo", within(5, ones-9), one(5), within(6, ones-9), one(5)},
		{"at UHi", within(5, sign+9), one(sign + 9), within(5, sign+8), one(sign + 9)},
		{"at SLo", signed(-9, 5), minus(9), signed(-8, 5), minus(9)},
		{"at SHi", signed(-9, 5), one(5), signed(-9, 4), one(5)},
		{"at ULo and SLo", num.Bounds(5, 9), one(5), num.Bounds(6, 9), one(5)},
		{"at ULo and SLo, below 0", num.Signed(-9, -5), minus(9), num.Signed(-8, -5), minus(9)},
		{"at UHi and SHi", num.Bounds(4, 8), one(8), num.Bounds(4, 7), one(8)},
		{"at UHi and SHi, below 0", num.Signed(-9, -5), minus(5), num.Signed(-9, -6), minus(5)},
		{"at ULo and SHi", known(0, ones, 3, ones, least, 3), one(3), known(0, ones, 4, ones, least, 2), one(3)},
		{"at UHi and SLo", known(0, ones, 0, sign+5, least+5, most), one(sign + 5), known(0, ones, 0, sign+4, least+6, most), one(sign + 5)},
		{"one of two is left", num.Bounds(4, 5), one(4), one(5), one(4)},
		{"the other one of two is left", num.Bounds(4, 5), one(5), one(4), one(5)},
		{"at no end", num.Bounds(5, 9), one(7), num.Bounds(5, 9), one(7)},
		{"beyond", num.Bounds(5, 9), one(10), num.Bounds(5, 9), one(10)},
		{"the numbers are other ones already", one(5), one(6), one(5), one(6)},
		{"at an end of the pattern alone", odd(), one(1), known(1, ones-1, 1, ones, least+1, most), one(1)},
		{"b has more than one number", num.Bounds(5, 9), num.Bounds(5, 6), num.Bounds(5, 9), num.Bounds(5, 6)},
		{"b has one number by its pattern alone", num.Bounds(5, 9), bitsOnly(5, 0), num.Bounds(6, 9), one(5)},
		{"b has one number by its bounds alone", num.Bounds(5, 9), within(5, 5), num.Bounds(5, 9), one(5)},
	})
	ask(t, api.Jne, true, true, []byHand{
		{"a's, at ULo and SLo", one(5), num.Bounds(5, 9), one(5), num.Bounds(6, 9)},
		{"a's, at UHi and SHi", one(8), num.Bounds(4, 8), one(8), num.Bounds(4, 7)},
		{"a's, at SHi", one(5), signed(-9, 5), one(5), signed(-9, 4)},
		{"a's, at no end", one(7), num.Bounds(5, 9), one(7), num.Bounds(5, 9)},
		{"a has one number by its pattern alone", bitsOnly(5, 0), num.Bounds(5, 9), one(5), num.Bounds(6, 9)},
		{"a has one number by its bounds alone", within(5, 5), num.Bounds(5, 9), one(5), num.Bounds(5, 9)},
		{"a has one number behind it alone", num.Bounds(4, 5), known(4, 0, 4, 5, 4, 5), one(5), one(4)},
		{"both are the same by their patterns alone", bitsOnly(5, 0), bitsOnly(5, 0), one(5), one(5)},
	})
	asTold(t, api.Jne, true, true, false, [][2]api.Num{
		{one(5), one(5)}, {minus(5), minus(5)}, {within(5, 5), one(5)}, {signed(-5, -5), minus(5)}, {one(5), within(5, 5)}, {minus(5), signed(-5, -5)},
	})
}

func TestDifferentAtTheEndsOfAllNumbers(t *testing.T) { // P9.1
	ask(t, api.Jne, true, true, []byHand{
		{"0", all(), one(0), within(1, ones), one(0)},
		{"2^64 - 1", all(), one(ones), within(0, ones-1), one(ones)},
		{"2^63 - 1", all(), one(sign - 1), signed(least, most-1), one(sign - 1)},
		{"-2^63", all(), one(sign), signed(least+1, most), one(sign)},
		{"just above 0", within(0, 1), one(1), one(0), one(1)},
		{"just below 2^64 - 1", within(ones-1, ones), one(ones - 1), one(ones), one(ones - 1)},
		{"just below 2^63 - 1", signed(most-1, most), one(sign - 2), one(sign - 1), one(sign - 2)},
		{"just above -2^63", signed(least, least+1), one(sign + 1), one(sign), one(sign + 1)},
		{"0, of few", num.Bounds(0, 9), one(0), num.Bounds(1, 9), one(0)},
		{"2^64 - 1, of few", num.Signed(-9, -1), minus(1), num.Signed(-9, -2), minus(1)},
		{"2^63 - 1, of those without a sign", num.Bounds(0, most), one(sign - 1), num.Bounds(0, most-1), one(sign - 1)},
		{"-2^63, of those below 0", num.Signed(least, -1), one(sign), num.Signed(least+1, -1), one(sign)},
		{"2^63 - 1, as ULo", num.Bounds(sign-1, sign+5), one(sign - 1), num.Bounds(sign, sign+5), one(sign - 1)},
		{"-1, as SLo", num.Signed(-1, 5), minus(1), num.Bounds(0, 5), minus(1)},
		{"0, as SHi", num.Signed(-5, 0), one(0), num.Signed(-5, -1), one(0)},
		{"2^63, as UHi", num.Bounds(sign-5, sign), one(sign), num.Bounds(sign-5, sign-1), one(sign)},
		{"0, of b", one(0), all(), one(0), within(1, ones)},
		{"2^64 - 1, of b", one(ones), all(), one(ones), within(0, ones-1)},
		{"2^63 - 1, of b", one(sign - 1), all(), one(sign - 1), signed(least, most-1)},
		{"-2^63, of b", one(sign), all(), one(sign), signed(least+1, most)},
	})
	// What would go beyond the end stays, so that nothing is left.
	for _, c := range []struct {
		bounds api.Num
		number uint64
	}{
		{within(0, 0), 0}, {within(ones, ones), ones}, {signed(most, most), sign - 1}, {signed(least, least), sign},
		{one(0), 0}, {one(ones), ones}, {one(sign - 1), sign - 1}, {one(sign), sign},
	} {
		asTold(t, api.Jne, true, true, false, [][2]api.Num{{c.bounds, one(c.number)}, {one(c.number), c.bounds}})
	}
}

func TestAbove(t *testing.T) { // P9.1
	ask(t, api.Jgt, true, true, []byHand{
		{"both come closer", num.Bounds(0, 9), num.Bounds(4, 20), num.Bounds(5, 9), num.Bounds(4, 8)},
		{"bounds that are closer stay", num.Bounds(8, 9), num.Bounds(4, 5), num.Bounds(8, 9), num.Bounds(4, 5)},
		{"one number each", num.Bounds(0, 6), num.Bounds(5, 9), one(6), one(5)},
		{"all", all(), all(), within(1, ones), within(0, ones-1)},
		{"b just below 2^64 - 1", all(), one(ones - 1), one(ones), one(ones - 1)},
		{"b from just below 2^64 - 1 on", all(), within(ones-1, ones), one(ones), one(ones - 1)},
		{"a just above 0", one(1), all(), one(1), one(0)},
		{"a up to just above 0", within(0, 1), all(), one(1), one(0)},
		{"to the other side of 2^63", all(), one(sign - 1), num.Bounds(sign, ones), one(sign - 1)},
		{"bounds with a sign stay", signed(-9, 5), signed(-3, 9), known(0, ones, 1, ones, -9, 5), known(0, ones, 0, ones-1, -3, 9)},
	})
	asTold(t, api.Jgt, true, true, false, [][2]api.Num{
		{all(), one(ones)}, {all(), within(ones, ones)}, {one(0), all()}, {within(0, 0), all()}, {one(0), one(ones)},
		{num.Bounds(0, 5), num.Bounds(5, 9)}, {one(5), one(5)}, {one(5), minus(5)},
	})
	ask(t, api.Jge, true, true, []byHand{
		{"both come closer", num.Bounds(0, 9), num.Bounds(4, 20), num.Bounds(4, 9), num.Bounds(4, 9)},
		{"bounds that are closer stay", num.Bounds(8, 9), num.Bounds(4, 8), num.Bounds(8, 9), num.Bounds(4, 8)},
		{"one number", num.Bounds(0, 5), num.Bounds(5, 9), one(5), one(5)},
		{"all", all(), all(), all(), all()},
		{"b is 2^64 - 1", all(), one(ones), one(ones), one(ones)},
		{"a is 0", one(0), all(), one(0), one(0)},
		{"to the other side of 2^63", all(), one(sign), num.Bounds(sign, ones), one(sign)},
		{"bounds with a sign stay", signed(-9, 5), signed(-3, 9), signed(-9, 5), signed(-3, 9)},
	})
	asTold(t, api.Jge, true, true, false, [][2]api.Num{{num.Bounds(0, 4), num.Bounds(5, 9)}, {one(5), one(6)}, {one(5), minus(5)}})
}

func TestBelow(t *testing.T) { // P9.1
	ask(t, api.Jlt, true, true, []byHand{
		{"both come closer", num.Bounds(4, 20), num.Bounds(0, 9), num.Bounds(4, 8), num.Bounds(5, 9)},
		{"by one number", all(), one(5), num.Bounds(0, 4), one(5)},
		{"one number each", num.Bounds(5, 9), num.Bounds(0, 6), one(5), one(6)},
		{"a just below 2^64 - 1", one(ones - 1), all(), one(ones - 1), one(ones)},
		{"b just above 0", all(), one(1), one(0), one(1)},
		{"b up to just above 0", all(), within(0, 1), one(0), one(1)},
		{"all", all(), all(), within(0, ones-1), within(1, ones)},
	})
	asTold(t, api.Jlt, true, true, false, [][2]api.Num{
		{one(ones), all()}, {within(ones, ones), all()}, {all(), one(0)}, {all(), within(0, 0)}, {num.Bounds(5, 9), num.Bounds(0, 5)}, {minus(5), one(5)},
	})
	ask(t, api.Jle, true, true, []byHand{
		{"both come closer", num.Bounds(4, 20), num.Bounds(0, 9), num.Bounds(4, 9), num.Bounds(4, 9)},
		{"by one number", all(), one(5), num.Bounds(0, 5), one(5)},
		{"one number", num.Bounds(5, 9), num.Bounds(0, 5), one(5), one(5)},
		{"a is 2^64 - 1", one(ones), all(), one(ones), one(ones)},
		{"b is 0", all(), one(0), one(0), one(0)},
		{"all", all(), all(), all(), all()},
	})
	asTold(t, api.Jle, true, true, false, [][2]api.Num{{num.Bounds(5, 9), num.Bounds(0, 4)}, {one(6), one(5)}, {minus(5), one(5)}})
}

func TestAboveSigned(t *testing.T) { // P9.1
	ask(t, api.Jsgt, true, true, []byHand{
		{"both come closer", signed(-9, 5), signed(-3, 9), signed(-2, 5), signed(-3, 4)},
		{"bounds that are closer stay", signed(-2, 9), signed(-5, -4), signed(-2, 9), num.Signed(-5, -4)},
		{"one number each", signed(-9, -5), signed(-6, 3), minus(5), minus(6)},
		{"by one number", all(), one(5), num.Signed(6, most), one(5)},
		{"above -1", all(), minus(1), num.Signed(0, most), minus(1)},
		{"below 0", one(0), all(), one(0), num.Signed(least, -1)},
		{"all", all(), all(), signed(least+1, most), signed(least, most-1)},
		{"b just below 2^63 - 1", all(), one(sign - 2), one(sign - 1), one(sign - 2)},
		{"b from just below 2^63 - 1 on", all(), signed(most-1, most), one(sign - 1), one(sign - 2)},
		{"a just above -2^63", one(sign + 1), all(), one(sign + 1), one(sign)},
		{"a up to just above -2^63", signed(least, least+1), all(), one(sign + 1), one(sign)},
		{"bounds without a sign stay", within(sign-3, sign+3), within(sign-5, sign+5), known(0, ones, sign-3, sign+3, least+1, most), known(0, ones, sign-5, sign+5, least, most-1)},
	})
	asTold(t, api.Jsgt, true, true, false, [][2]api.Num{
		{all(), one(sign - 1)}, {all(), signed(most, most)}, {one(sign), all()}, {signed(least, least), all()}, {one(sign), one(sign - 1)},
		{signed(-9, -5), signed(-5, 9)}, {one(5), one(5)}, {minus(5), one(5)},
	})
	ask(t, api.Jsge, true, true, []byHand{
		{"both come closer", signed(-9, 5), signed(-3, 9), signed(-3, 5), signed(-3, 5)},
		{"one number", signed(-9, -5), signed(-5, 3), minus(5), minus(5)},
		{"by one number", all(), one(0), num.Signed(0, most), one(0)},
		{"b is 2^63 - 1", all(), one(sign - 1), one(sign - 1), one(sign - 1)},
		{"a is -2^63", one(sign), all(), one(sign), one(sign)},
		{"all", all(), all(), all(), all()},
		{"bounds without a sign stay", within(sign-3, sign+3), within(sign-5, sign+5), within(sign-3, sign+3), within(sign-5, sign+5)},
	})
	asTold(t, api.Jsge, true, true, false, [][2]api.Num{{signed(-9, -6), signed(-5, 3)}, {one(5), one(6)}, {minus(5), one(5)}})
}

func TestBelowSigned(t *testing.T) { // P9.1
	ask(t, api.Jslt, true, true, []byHand{
		{"both come closer", signed(-3, 9), signed(-9, 5), signed(-3, 4), signed(-2, 5)},
		{"by one number", all(), one(0), num.Signed(least, -1), one(0)},
		{"one number each", signed(-6, 3), signed(-9, -5), minus(6), minus(5)},
		{"a just below 2^63 - 1", one(sign - 2), all(), one(sign - 2), one(sign - 1)},
		{"b just above -2^63", all(), one(sign + 1), one(sign), one(sign + 1)},
		{"all", all(), all(), signed(least, most-1), signed(least+1, most)},
	})
	asTold(t, api.Jslt, true, true, false, [][2]api.Num{
		{one(sign - 1), all()}, {signed(most, most), all()}, {all(), one(sign)}, {all(), signed(least, least)}, {signed(-5, 9), signed(-9, -5)}, {one(5), minus(5)},
	})
	ask(t, api.Jsle, true, true, []byHand{
		{"both come closer", signed(-3, 9), signed(-9, 5), signed(-3, 5), signed(-3, 5)},
		{"by one number", all(), minus(1), num.Signed(least, -1), minus(1)},
		{"one number", signed(-5, 3), signed(-9, -5), minus(5), minus(5)},
		{"a is 2^63 - 1", one(sign - 1), all(), one(sign - 1), one(sign - 1)},
		{"b is -2^63", all(), one(sign), one(sign), one(sign)},
		{"all", all(), all(), all(), all()},
	})
	asTold(t, api.Jsle, true, true, false, [][2]api.Num{{signed(-5, 3), signed(-9, -6)}, {one(6), one(5)}, {one(5), minus(5)}})
}

func TestInCommon(t *testing.T) { // P9.1
	ask(t, api.Jset, true, true, []byHand{
		{"one bit", all(), one(8), known(8, ones-8, 8, ones, least+8, most), one(8)},
		{"the lowest bit", all(), one(1), known(1, ones-1, 1, ones, least+1, most), one(1)},
		{"the highest bit", all(), one(sign), num.Bounds(sign, ones), one(sign)},
		{"one bit, and bounds", num.Bounds(0, 15), one(8), num.Bounds(8, 15), one(8)},
		{"one bit, which was known", one(12), one(8), one(12), one(8)},
		{"one bit, and others that were known", odd(), one(2), known(3, ones-3, 3, ones, least+3, most), one(2)},
		{"one bit, by the pattern alone", num.Bounds(0, 15), bitsOnly(8, 0), num.Bounds(8, 15), one(8)},
		{"one bit, by bounds alone", num.Bounds(0, 15), within(8, 8), num.Bounds(0, 15), one(8)},
		{"two bits", num.Bounds(0, 15), one(6), num.Bounds(0, 15), one(6)},
		{"two bits that a hasn't", one(1), one(6), one(1), one(6)},
		{"all bits", all(), one(ones), all(), one(ones)},
		{"no bit", num.Bounds(0, 15), one(0), num.Bounds(0, 15), one(0)},
		{"b has more than one number", num.Bounds(0, 15), num.Bounds(8, 9), num.Bounds(0, 15), num.Bounds(8, 9)},
		{"nothing is told of b", one(8), num.Bounds(0, 15), one(8), num.Bounds(0, 15)},
		{"both are refined", within(0, 15), within(2, 3), num.Bounds(0, 15), num.Bounds(2, 3)},
	})
	asTold(t, api.Jset, true, true, false, [][2]api.Num{
		{num.Bounds(0, 7), one(8)}, {within(0, 7), one(8)}, {one(0), one(1)}, {one(ones - 1), one(1)}, {num.Bounds(0, most), one(sign)}, {signed(0, most), one(sign)}, {bitsOnly(0, ones-4), one(4)},
	})
}

func TestNotInCommon(t *testing.T) { // P9.1
	ask(t, api.Jset, true, false, []byHand{
		{"one bit", all(), one(8), known(0, ones-8, 0, ones-8, least, most-8), one(8)},
		{"two bits", all(), one(6), known(0, ones-6, 0, ones-6, least, most-6), one(6)},
		{"the highest bit", all(), one(sign), num.Bounds(0, most), one(sign)},
		{"all bits", all(), one(ones), one(0), one(ones)},
		{"no bit", within(0, 15), one(0), num.Bounds(0, 15), one(0)},
		{"one bit, and bounds", num.Bounds(0, 15), one(8), num.Bounds(0, 7), one(8)},
		{"two bits, and others that were known", odd(), one(6), known(1, ones-7, 1, ones-6, least+1, most-6), one(6)},
		{"bits that were known", one(9), one(6), one(9), one(6)},
		{"two bits, by the pattern alone", num.Bounds(0, 7), bitsOnly(6, 0), num.Bounds(0, 1), one(6)},
		{"two bits, by bounds alone", num.Bounds(0, 7), within(6, 6), num.Bounds(0, 7), one(6)},
		{"b has more than one number", num.Bounds(0, 7), num.Bounds(6, 7), num.Bounds(0, 7), num.Bounds(6, 7)},
		{"nothing is told of b", one(6), num.Bounds(0, 7), one(6), num.Bounds(0, 7)},
	})
	asTold(t, api.Jset, true, false, false, [][2]api.Num{
		{odd(), one(1)}, {one(6), one(4)}, {one(2), one(6)}, {num.Bounds(8, 15), one(8)}, {within(8, 15), one(8)}, {minus(1), one(sign)}, {signed(least, -1), one(sign)}, {within(1, ones), one(ones)},
	})
}

func TestWhereItDoesNotHold(t *testing.T) { // P9.1
	a, b := num.Bounds(4, 20), num.Bounds(0, 9)
	x, y := signed(-3, 9), signed(-9, 5)
	for _, c := range []struct {
		op byte
		byHand
	}{
		{api.Jeq, byHand{"Jne", num.Bounds(5, 9), one(5), num.Bounds(6, 9), one(5)}},
		{api.Jne, byHand{"Jeq", a, b, num.Bounds(4, 9), num.Bounds(4, 9)}},
		{api.Jgt, byHand{"Jle", a, b, num.Bounds(4, 9), num.Bounds(4, 9)}},
		{api.Jge, byHand{"Jlt", a, b, num.Bounds(4, 8), num.Bounds(5, 9)}},
		{api.Jlt, byHand{"Jge", b, a, num.Bounds(4, 9), num.Bounds(4, 9)}},
		{api.Jle, byHand{"Jgt", b, a, num.Bounds(5, 9), num.Bounds(4, 8)}},
		{api.Jsgt, byHand{"Jsle", x, y, signed(-3, 5), signed(-3, 5)}},
		{api.Jsge, byHand{"Jslt", x, y, signed(-3, 4), signed(-2, 5)}},
		{api.Jslt, byHand{"Jsge", y, x, signed(-3, 5), signed(-3, 5)}},
		{api.Jsle, byHand{"Jsgt", y, x, signed(-2, 5), signed(-3, 4)}},
	} {
		ask(t, c.op, true, false, []byHand{c.byHand})
	}
	for op, c := range map[byte][2]api.Num{
		api.Jeq: {one(5), one(5)}, api.Jne: {one(5), one(6)},
		api.Jgt: {one(6), one(5)}, api.Jge: {one(5), one(5)}, api.Jlt: {one(5), one(6)}, api.Jle: {one(5), one(5)},
		api.Jsgt: {one(5), minus(5)}, api.Jsge: {minus(5), minus(5)}, api.Jslt: {minus(5), one(5)}, api.Jsle: {minus(5), minus(5)},
	} {
		asTold(t, op, true, false, false, [][2]api.Num{c})
	}
}

func TestOf32Bits(t *testing.T) { // P9.1
	ask(t, api.Jeq, false, true, []byHand{{"bounds", within(0, 9), within(5, low), num.Bounds(5, 9), num.Bounds(5, 9)}})
	ask(t, api.Jne, false, true, []byHand{{"at an end", within(5, 9), one(5), num.Bounds(6, 9), one(5)}})
	ask(t, api.Jgt, false, true, []byHand{
		{"both just below 2^32", within(0, low), within(5, low), num.Bounds(6, low), num.Bounds(5, low-1)},
		{"up to 2^32 - 1", within(0, low), one(low - 1), one(low), one(low - 1)},
	})
	ask(t, api.Jgt, false, false, []byHand{{"both just below 2^32", within(5, low), within(0, low), num.Bounds(5, low), num.Bounds(5, low)}})
	ask(t, api.Jge, false, true, []byHand{{"both just below 2^32", within(0, low), within(5, low), num.Bounds(5, low), num.Bounds(5, low)}})
	ask(t, api.Jlt, false, true, []byHand{{"both just below 2^32", within(5, low), within(0, low), num.Bounds(5, low-1), num.Bounds(6, low)}})
	ask(t, api.Jle, false, true, []byHand{{"both just below 2^32", within(5, low), within(0, low), num.Bounds(5, low), num.Bounds(5, low)}})
	ask(t, api.Jset, false, true, []byHand{{"one bit", within(0, low), one(1 << 31), num.Bounds(1<<31, low), one(1 << 31)}})
	ask(t, api.Jset, false, false, []byHand{{"one bit", within(0, low), one(1 << 31), num.Bounds(0, 1<<31-1), one(1 << 31)}})
	asTold(t, api.Jeq, false, true, false, [][2]api.Num{{num.Bounds(0, 3), one(4)}})
	asTold(t, api.Jne, false, true, false, [][2]api.Num{{one(low), one(low)}})
	asTold(t, api.Jgt, false, true, false, [][2]api.Num{{within(0, low), one(low)}, {within(0, 0), within(0, low)}})
	asTold(t, api.Jset, false, false, false, [][2]api.Num{{odd32(), one(1)}})
}

func odd32() api.Num { return num.Cut(odd(), 4) }

func TestOf32BitsOfHighBytes(t *testing.T) { // P9.1
	for _, holds := range []bool{true, false} {
		for _, op := range withoutSign() {
			asTold(t, op, false, holds, true, [][2]api.Num{
				{within(0, 1<<32), within(5, low)}, {within(5, low), within(0, 1<<32)}, {within(0, 1<<32), within(0, 1<<32)},
				{one(1 << 32), one(1 << 32)}, {one(1<<32 + 5), one(5)}, {one(5), one(1<<32 + 5)}, {one(5), one(ones)}, {all(), one(5)}, {one(0), all()}, {all(), all()},
				// Only UHi is asked.
				{bitsOnly(0, 15), one(5)}, {signed(0, 9), one(5)}, {one(5), bitsOnly(5, 0)}, {num.Signed(-9, -5), minus(5)},
			})
		}
		for _, op := range withSign() {
			asTold(t, op, false, holds, true, [][2]api.Num{
				{num.Bounds(0, 9), num.Bounds(4, 20)}, {one(5), one(5)}, {one(5), one(6)}, {one(6), one(5)}, {within(0, low), one(low)}, {within(0, 9), within(4, 20)}, {one(0), all()}, {all(), one(1 << 31)}, {signed(-9, 5), signed(-3, 9)}, {minus(5), minus(5)},
			})
		}
	}
}

func TestOfNoCondition(t *testing.T) { // P9.1
	for n := range 256 {
		op := byte(n)
		if slices.Contains(conditionNumbers(), op) {
			continue
		}
		for _, x := range edges() {
			for _, holds := range []bool{true, false} {
				l := [][2]api.Num{{x, x}, {x, one(5)}, {all(), x}, {within(0, 9), x}, {x, odd()}}
				asTold(t, op, true, holds, true, l)
				asTold(t, op, false, holds, true, l)
			}
		}
	}
}

// empties are those that Refine finds so.
func empties() []api.Num {
	return []api.Num{within(5, 4), within(ones, 0), within(1, 0), within(sign, sign-1), signed(5, 4), signed(most, least), known(8, 3, 0, 7, least, most), known(0, ones, 0, 5, -9, -1), known(0, ones, 6, 2, 6, 2), known(5, 0, 7, 9, 7, 9), known(0, ones-15, 1, 2, least, most)}
}

func TestOfEmpty(t *testing.T) { // P9.1
	for _, none := range empties() {
		for _, other := range append(empties(), all(), one(0), one(4), one(5), one(ones), num.Bounds(3, 9), signed(-9, 5)) {
			for _, holds := range []bool{true, false} {
				for _, op := range conditionNumbers() {
					asTold(t, op, true, holds, false, [][2]api.Num{{none, other}, {other, none}})
				}
				for _, op := range withoutSign() {
					can := none.UHi > low || other.UHi > low
					asTold(t, op, false, holds, can, [][2]api.Num{{none, other}, {other, none}})
				}
				for _, op := range withSign() {
					asTold(t, op, false, holds, true, [][2]api.Num{{none, other}, {other, none}})
				}
			}
		}
	}
	unseen := known(1, 4, 2, 4, 2, 4)
	ask(t, api.Jset, true, true, []byHand{{"what no round finds empty", unseen, one(0), unseen, one(0)}})
}

func TestOfBitsInBoth(t *testing.T) { // P9.1
	both, proper := bitsOnly(7, 5), known(2, 5, 2, 7, 2, 7) // 2, 3, 6 or 7
	ask(t, api.Jeq, true, true, []byHand{{"of a", both, all(), proper, proper}, {"of b", all(), both, proper, proper}, {"of both", both, both, proper, proper}})
	ask(t, api.Jne, true, true, []byHand{{"of a", both, one(9), proper, one(9)}, {"b has more than one number", one(2), bitsOnly(2, 2), one(2), known(0, 2, 0, 2, 0, 2)}})
	ask(t, api.Jgt, true, true, []byHand{{"of a", both, one(4), known(6, 1, 6, 7, 6, 7), one(4)}})
	ask(t, api.Jle, true, true, []byHand{{"of a", both, one(4), known(2, 5, 2, 4, 2, 4), one(4)}})
	ask(t, api.Jsge, true, true, []byHand{{"of b", one(3), both, one(3), known(2, 1, 2, 3, 2, 3)}})
	ask(t, api.Jset, true, true, []byHand{
		{"a bit in both", both, one(1), known(3, 4, 3, 7, 3, 7), one(1)},
		{"a bit in both, the higher one", both, one(4), known(6, 1, 6, 7, 6, 7), one(4)},
		{"b has more than one number", num.Bounds(0, 15), bitsOnly(8, 8), num.Bounds(0, 15), known(0, 8, 0, 8, 0, 8)},
	})
	ask(t, api.Jset, true, false, []byHand{{"a bit in both", both, one(1), known(2, 4, 2, 6, 2, 6), one(1)}})
	asTold(t, api.Jset, true, true, false, [][2]api.Num{{both, one(8)}})
	asTold(t, api.Jset, true, false, false, [][2]api.Num{{both, one(2)}})
	asTold(t, api.Jgt, true, true, false, [][2]api.Num{{both, one(7)}})
	asTold(t, api.Jgt, false, true, true, [][2]api.Num{{both, one(7)}})
}
