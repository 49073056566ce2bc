package xfer

import (
	"math"
	"math/big"
	"slices"
	"testing"

	"halberd/alu"
	"halberd/api"
	"halberd/num"
	"halberd/samples"
	"halberd/small"
	"halberd/tnum"
)

const (
	ones  = math.MaxUint64
	sign  = 1 << 63
	low   = 1<<32 - 1
	least = math.MinInt64
	most  = math.MaxInt64
)

func operations() []byte {
	return []byte{api.Add, api.Sub, api.Mul, api.Div, api.Or, api.And, api.Lsh, api.Rsh, api.Neg, api.Mod, api.Xor, api.Mov, api.Arsh}
}

// known tells what is known as it is written, where nothing is followed from anything.
func known(value, mask, ulo, uhi uint64, slo, shi int64) api.Num {
	return api.Num{Bits: api.Tnum{Value: value, Mask: mask}, ULo: ulo, UHi: uhi, SLo: slo, SHi: shi}
}

func bitsOnly(value, mask uint64) api.Num { return known(value, mask, 0, ones, least, most) }

func within(lo, hi uint64) api.Num { return known(0, ones, lo, hi, least, most) }

func signed(lo, hi int64) api.Num { return known(0, ones, 0, ones, lo, hi) }

func odd() api.Num { return bitsOnly(1, ones-1) }

// behindCut has one number only where it is cut to four bytes.
func behindCut(x uint64) api.Num { return bitsOnly(x, ones-low) }

type byHand struct {
	name string
	op   byte
	a, b api.Num
	want api.Num
}

func ask(t *testing.T, wide bool, l []byHand) {
	t.Helper()
	for _, c := range l {
		if got, ok := Do(c.op, wide, c.a, c.b); got != c.want || !ok {
			t.Errorf("%s: Do(%#x, %v, %#x, %#x): %#x, %v, not %#x", c.name, c.op, wide, c.a, c.b, got, ok, c.want)
		}
	}
}

func TestExamples(t *testing.T) { // P8.1
	ask(t, true, []byHand{
		{"0 to 3 and 4", api.Add, num.Bounds(0, 3), num.Const(4), num.Bounds(4, 7)},
		{"all and 7", api.And, num.All(), num.Const(7), num.Bounds(0, 7)},
		{"all by 5", api.Mod, num.All(), num.Const(5), num.Bounds(0, 4)},
		{"all by what isn't known", api.Mod, num.All(), num.All(), num.All()},
	})
}

// What a cell says is all that is known there, as no other cell of its row says anything of such numbers.
func TestCellsOfSumsAndProducts(t *testing.T) { // P8.1
	ask(t, true, []byHand{
		{"add, pattern", api.Add, odd(), odd(), known(0, ones-1, 0, ones-1, least, most-1)},
		{"add, without a sign", api.Add, within(sign-1, sign), within(1, 2), known(sign, 3, sign, sign+2, least, least+2)},
		{"add, with a sign", api.Add, signed(-5, 3), signed(-2, 4), signed(-7, 7)},
		{"sub, pattern", api.Sub, odd(), odd(), known(0, ones-1, 0, ones-1, least, most-1)},
		{"sub, without a sign", api.Sub, within(sign+4, sign+9), within(1, 4), known(sign, 15, sign, sign+8, least, least+8)},
		{"sub, with a sign", api.Sub, signed(-5, 3), signed(-2, 4), signed(-9, 5)},
		{"mul, without a sign", api.Mul, within(3, 5), within(7, 9), known(0, 63, 21, 45, 21, 45)},
		{"mul has no pattern", api.Mul, bitsOnly(0, ones-1), bitsOnly(0, ones-1), num.All()},
		{"mul has no pattern of small ones", api.Mul, num.Const(2), known(0, 6, 0, 6, 0, 6), known(0, 15, 0, 12, 0, 12)},
		{"mul has no bounds with a sign", api.Mul, signed(2, 3), signed(4, 5), num.All()},
		{"div by one number", api.Div, within(100, 200), num.Const(7), known(0, 31, 14, 28, 14, 28)},
		{"div by more", api.Div, within(100, 200), within(7, 9), known(0, 255, 0, 200, 0, 200)},
		{"div has no pattern", api.Div, bitsOnly(0, ones-1), num.Const(1), num.All()},
		{"div has no bounds with a sign", api.Div, signed(-9, 5), num.Const(1), num.All()},
		{"mod by one number", api.Mod, within(100, 200), num.Const(7), num.Bounds(0, 6)},
		{"mod of what is less", api.Mod, within(2, 3), num.Const(7), num.Bounds(0, 3)},
		{"mod by more", api.Mod, within(100, 200), within(7, 9), num.Bounds(0, 200)},
		{"mod has no pattern", api.Mod, odd(), num.Const(4), num.Bounds(0, 3)},
		{"mod has no bounds with a sign", api.Mod, signed(0, 5), within(7, 9), num.All()},
		{"neg, pattern", api.Neg, odd(), num.All(), known(1, ones-1, 1, ones, least+1, most)},
		{"neg, without a sign", api.Neg, within(0, 0), num.All(), num.Const(0)},
		{"neg, without a sign, not", api.Neg, within(0, 1), num.All(), num.All()},
		{"neg, with a sign", api.Neg, signed(-5, 3), num.All(), signed(-3, 5)},
		{"neg hangs on a alone", api.Neg, signed(-5, 3), num.Const(9), signed(-3, 5)},
		{"neg of one number", api.Neg, num.Const(5), num.All(), num.Const(ones - 4)},
	})
}

func TestCellsOfBitsAndMoves(t *testing.T) { // P8.1
	ask(t, true, []byHand{
		{"and, pattern", api.And, odd(), odd(), known(1, ones-1, 1, ones, least+1, most)},
		{"and, without a sign", api.And, within(5, 9), within(6, 100), known(0, 15, 0, 9, 0, 9)},
		{"and, without a sign, b's", api.And, within(6, 100), within(5, 9), known(0, 15, 0, 9, 0, 9)},
		{"and has no bounds with a sign", api.And, signed(0, 9), signed(0, 9), num.All()},
		{"or, pattern", api.Or, odd(), bitsOnly(0, ones-1), known(1, ones-1, 1, ones, least+1, most)},
		{"or, without a sign", api.Or, within(5, 9), within(7, 100), within(7, ones)},
		{"or, without a sign, a's", api.Or, within(sign+5, sign+9), within(7, 100), known(sign, most, sign+5, ones, least+5, -1)},
		{"or has no bounds with a sign", api.Or, signed(-9, -1), signed(-9, -1), num.All()},
		{"xor, pattern", api.Xor, odd(), odd(), known(0, ones-1, 0, ones-1, least, most-1)},
		{"xor has no bounds", api.Xor, known(0, ones, 1, 2, 1, 2), known(0, ones, 1, 2, 1, 2), num.All()},
		{"mov, pattern", api.Mov, num.Const(7), odd(), known(1, ones-1, 1, ones, least+1, most)},
		{"mov, without a sign", api.Mov, num.Const(7), within(3, 4), known(0, 7, 3, 4, 3, 4)},
		{"mov, with a sign", api.Mov, num.Const(7), signed(-5, 3), signed(-5, 3)},
		{"mov of all", api.Mov, num.Const(7), num.All(), num.All()},
	})
}

func TestCellsOfShifts(t *testing.T) { // P8.1
	ask(t, true, []byHand{
		{"lsh, pattern", api.Lsh, odd(), num.Const(3), known(8, ones-15, 8, ones-7, least+8, most-7)},
		{"lsh, without a sign", api.Lsh, within(3, 5), num.Const(4), known(0, 0x70, 48, 80, 48, 80)},
		{"lsh, without a sign, of what comes to both sides of 2^63", api.Lsh, within(1, 3), num.Const(62), known(0, 3<<62, 1<<62, 3<<62, least, 1<<62)},
		{"lsh has no bounds with a sign", api.Lsh, signed(1, 2), num.Const(1), known(0, ones-1, 0, ones-1, least, most-1)},
		{"lsh by more", api.Lsh, known(0, 3, 0, 3, 0, 3), within(0, 1), num.All()},
		{"rsh, pattern", api.Rsh, bitsOnly(sign, most), num.Const(3), known(1<<60, 1<<60-1, 1<<60, 1<<61-1, 1<<60, 1<<61-1)},
		{"rsh, without a sign", api.Rsh, within(100, 200), num.Const(3), known(0, 31, 12, 25, 12, 25)},
		{"rsh has no bounds with a sign", api.Rsh, signed(4, 5), num.Const(1), num.Bounds(0, most)},
		{"rsh by more", api.Rsh, within(100, 200), within(1, 2), num.Bounds(0, 200)},
		{"rsh by more has no pattern", api.Rsh, bitsOnly(0, 3), within(1, 2), num.All()},
		{"arsh, pattern", api.Arsh, bitsOnly(sign, most), num.Const(3), known(0xF<<60, 1<<60-1, 0xF<<60, ones, -1<<60, -1)},
		{"arsh, with a sign", api.Arsh, signed(-100, 50), num.Const(3), signed(-13, 6)},
		{"arsh has no bounds without a sign", api.Arsh, within(100, 200), num.Const(3), signed(least>>3, most>>3)},
		{"arsh by more", api.Arsh, signed(-100, 50), within(1, 2), signed(-100, 50)},
		{"arsh by more, above 0", api.Arsh, signed(5, 50), within(1, 2), num.Signed(0, 50)},
		{"arsh by more, below 0", api.Arsh, signed(-100, -5), within(1, 2), num.Signed(-100, -1)},
		{"arsh by more has no pattern, nor bounds without a sign", api.Arsh, known(8, 3, 8, 11, least, most), within(1, 2), num.All()},
	})
}

func TestSumsThatGoOver(t *testing.T) { // P8.1
	ask(t, true, []byHand{
		{"just below 2^64", api.Add, within(5, ones-9), within(0, 9), within(5, ones)},
		{"just 2^64", api.Add, within(5, ones-9), within(0, 10), num.All()},
		{"just 2^64, of the greatest", api.Add, within(5, ones), within(1, 1), num.All()},
		{"of the greatest and 0", api.Add, within(5, ones), within(0, 0), within(5, ones)},
		{"with a sign, just not above", api.Add, signed(-3, most-4), signed(0, 4), signed(-3, most)},
		{"with a sign, just above", api.Add, signed(-3, most-4), signed(0, 5), num.All()},
		{"with a sign, just not below", api.Add, signed(least+4, 3), signed(-4, 0), signed(least, 3)},
		{"with a sign, just below", api.Add, signed(least+4, 3), signed(-5, 0), num.All()},
		{"with a sign, far above", api.Add, signed(0, most), signed(0, most), num.All()},
		{"with a sign, far below", api.Add, signed(least, 0), signed(least, 0), num.All()},
		{"on both sides of 2^63", api.Add, within(sign-5, sign+5), within(2, 3), within(sign-3, sign+8)},
		{"from below 2^63 to above", api.Add, num.Bounds(0, most), num.Bounds(1, 3), within(1, sign+2)},
		{"from above 0 to below, and back", api.Add, num.Signed(-3, -1), num.Bounds(0, 3), signed(-3, 2)},
	})
}

func TestDifferencesThatGoOver(t *testing.T) { // P8.1
	ask(t, true, []byHand{
		{"the first is 0", api.Sub, within(9, 20), within(3, 9), known(0, 31, 0, 17, 0, 17)},
		{"the first is below 0", api.Sub, within(9, 20), within(3, 10), num.All()},
		{"the first is 0, both of all numbers", api.Sub, within(ones, ones), within(0, ones), num.All()},
		{"the first is below 0, the second isn't", api.Sub, within(0, ones), within(0, 1), num.All()},
		{"with a sign, just not above", api.Sub, signed(-3, most-4), signed(-4, 0), signed(-3, most)},
		{"with a sign, just above", api.Sub, signed(-3, most-4), signed(-5, 0), num.All()},
		{"with a sign, just not below", api.Sub, signed(least+4, 3), signed(0, 4), signed(least, 3)},
		{"with a sign, just below", api.Sub, signed(least+4, 3), signed(0, 5), num.All()},
		{"with a sign, less the least, just not above", api.Sub, signed(-5, -1), signed(least, -5), known(0, most, 0, most, 0, most)},
		{"with a sign, less the least, just above", api.Sub, signed(-5, 0), signed(least, -5), num.All()},
		{"on both sides of 2^63", api.Sub, within(sign-5, sign+5), within(2, 3), within(sign-8, sign+3)},
		{"on both sides of 0", api.Sub, num.Bounds(0, 3), num.Bounds(0, 3), signed(-3, 3)},
		{"neg of the least", api.Neg, signed(least, 3), num.All(), num.All()},
		{"neg of the least but one", api.Neg, signed(least+1, 3), num.All(), signed(-3, most)},
		{"neg of what is above 0", api.Neg, num.Bounds(1, 3), num.All(), known(ones-3, 3, ones-2, ones, -3, -1)},
	})
}

func TestEdgesOfProductsAndQuotients(t *testing.T) { // P8.1
	ask(t, true, []byHand{
		{"both just below 2^32", api.Mul, within(2, low), within(3, low), within(6, low*low)},
		{"the first 2^32", api.Mul, within(2, 1<<32), within(3, 5), num.All()},
		{"the second 2^32", api.Mul, within(3, 5), within(2, 1<<32), num.All()},
		{"the first 2^32, the second 0", api.Mul, within(0, 1<<32), within(0, 0), num.All()},
		{"one factor is 0", api.Mul, within(2, low), within(0, 0), num.Const(0)},
		{"div by 0", api.Div, within(100, 200), num.Const(0), num.Bounds(0, 200)},
		{"div by 1", api.Div, within(100, 200), num.Const(1), num.Bounds(100, 200)},
		{"div by the greatest", api.Div, within(100, 200), num.Const(ones), num.Const(0)},
		{"div of the greatest by itself", api.Div, within(100, ones), num.Const(ones), num.Bounds(0, 1)},
		{"div on both sides of 2^63", api.Div, within(sign-2, sign+2), num.Const(2), num.Bounds(1<<62-1, 1<<62+1)},
		{"div by the least with a sign", api.Div, within(sign-1, sign), num.Const(sign), num.Bounds(0, 1)},
		{"div by one number that isn't known so", api.Div, within(100, 200), within(2, 2), num.Bounds(0, 200)},
		{"mod by 0", api.Mod, within(100, 200), num.Const(0), num.Bounds(0, 200)},
		{"mod by 1", api.Mod, within(100, 200), num.Const(1), num.Const(0)},
		{"mod by the greatest", api.Mod, within(100, 200), num.Const(ones), num.Bounds(0, 200)},
		{"mod of the greatest by itself", api.Mod, within(100, ones), num.Const(ones), num.Bounds(0, ones-1)},
		{"mod by one more", api.Mod, within(100, 200), num.Const(201), num.Bounds(0, 200)},
		{"mod by the same", api.Mod, within(100, 200), num.Const(200), num.Bounds(0, 199)},
		{"mod by one number that isn't known so", api.Mod, within(100, 200), within(2, 2), num.Bounds(0, 200)},
	})
}

func TestEdgesOfShiftsToTheLeft(t *testing.T) { // P8.1
	ask(t, true, []byHand{
		{"by 0", api.Lsh, within(3, 5), num.Const(0), num.Bounds(3, 5)},
		{"by 0, of all", api.Lsh, within(3, ones), num.Const(0), within(3, ones)},
		{"by 31", api.Lsh, within(3, 5), num.Const(31), known(0, 7<<31, 3<<31, 5<<31, 3<<31, 5<<31)},
		{"by 32", api.Lsh, within(3, 5), num.Const(32), known(0, 7<<32, 3<<32, 5<<32, 3<<32, 5<<32)},
		{"by 63", api.Lsh, within(0, 1), num.Const(63), known(0, sign, 0, sign, least, 0)},
		{"by 63, goes out", api.Lsh, within(1, 2), num.Const(63), known(0, sign, 0, sign, least, 0)},
		{"by 64", api.Lsh, within(3, ones), num.Const(64), within(3, ones)},
		{"by 65", api.Lsh, within(3, 5), num.Const(65), known(0, 14, 6, 10, 6, 10)},
		{"by -1", api.Lsh, within(0, 1), num.Const(ones), known(0, sign, 0, sign, least, 0)},
		{"what goes out is 0", api.Lsh, within(1, 15), num.Const(60), known(0, 0xF<<60, 1<<60, 0xF<<60, least, 7<<60)},
		{"what goes out isn't", api.Lsh, within(1, 16), num.Const(60), known(0, 0xF<<60, 0, 0xF<<60, least, 7<<60)},
		{"by 1, what goes out is 0", api.Lsh, within(5, most), num.Const(1), known(0, ones-1, 10, ones-1, least, most-1)},
		{"by 1, what goes out isn't", api.Lsh, within(5, sign), num.Const(1), known(0, ones-1, 0, ones-1, least, most-1)},
		{"by more", api.Lsh, num.Bounds(3, 5), num.Bounds(63, 64), num.All()},
		{"of one number by more", api.Lsh, num.Const(0), num.Bounds(0, 1), num.All()},
		{"by one number that isn't known so", api.Lsh, num.Bounds(3, 5), within(1, 1), num.All()},
	})
}

func TestEdgesOfShiftsToTheRight(t *testing.T) { // P8.1
	ask(t, true, []byHand{
		{"rsh by 0", api.Rsh, within(3, 5), num.Const(0), num.Bounds(3, 5)},
		{"rsh by 31", api.Rsh, within(1<<31, 5<<31), num.Const(31), num.Bounds(1, 5)},
		{"rsh by 32", api.Rsh, within(3<<31, 5<<32), num.Const(32), num.Bounds(1, 5)},
		{"rsh by 63", api.Rsh, within(sign-1, sign), num.Const(63), num.Bounds(0, 1)},
		{"rsh by 63, of 2^63 and above", api.Rsh, within(sign, ones), num.Const(63), num.Const(1)},
		{"rsh by 64", api.Rsh, within(sign-1, sign), num.Const(64), within(sign-1, sign)},
		{"rsh by 65", api.Rsh, within(sign-2, sign), num.Const(65), num.Bounds(1<<62-1, 1<<62)},
		{"rsh by -1", api.Rsh, within(0, ones), num.Const(ones), num.Bounds(0, 1)},
		{"rsh by more", api.Rsh, within(sign-1, sign), num.Bounds(63, 64), within(0, sign)},
		{"rsh by one number that isn't known so", api.Rsh, num.Bounds(4, 5), within(2, 2), num.Bounds(0, 5)},
		{"arsh by 0", api.Arsh, signed(-3, 5), num.Const(0), signed(-3, 5)},
		{"arsh by 31", api.Arsh, signed(-3<<31, 5<<31), num.Const(31), signed(-3, 5)},
		{"arsh by 32", api.Arsh, signed(-3<<32-1, 5<<32-1), num.Const(32), signed(-4, 4)},
		{"arsh by 63", api.Arsh, signed(least, most), num.Const(63), signed(-1, 0)},
		{"arsh by 63, below 0", api.Arsh, signed(least, -1), num.Const(63), num.Const(ones)},
		{"arsh by 64", api.Arsh, signed(-3, 5), num.Const(64), signed(-3, 5)},
		{"arsh by 65", api.Arsh, signed(-3, 5), num.Const(65), signed(-2, 2)},
		{"arsh by -1", api.Arsh, signed(-3, 5), num.Const(ones), signed(-1, 0)},
		{"arsh by more", api.Arsh, signed(least, most), num.Bounds(63, 64), num.All()},
		{"arsh by more, of 0", api.Arsh, signed(0, 0), num.Bounds(1, 2), num.Const(0)},
		{"arsh by one number that isn't known so", api.Arsh, signed(-8, 8), within(1, 1), signed(-8, 8)},
	})
}

func TestOf32BitsByHand(t *testing.T) { // P8.1
	ask(t, false, []byHand{
		{"add", api.Add, num.Bounds(0, 3), num.Const(4), num.Bounds(4, 7)},
		{"add, just below 2^32", api.Add, within(5, low-9), within(0, 9), num.Bounds(5, low)},
		{"add, just 2^32", api.Add, within(5, low-9), within(0, 10), num.Bounds(0, low)},
		{"add of high bytes", api.Add, known(1<<40, 3, 1<<40, 1<<40+3, least, most), num.Const(1<<50 + 4), num.Bounds(4, 7)},
		{"add keeps bits", api.Add, odd(), odd(), known(0, low-1, 0, low-1, 0, low-1)},
		{"sub", api.Sub, num.Bounds(5, 9), num.Const(5), num.Bounds(0, 4)},
		{"sub below 0", api.Sub, num.Bounds(5, 9), num.Const(6), num.Bounds(0, low)},
		{"sub all below 0", api.Sub, num.Bounds(5, 7), num.Const(8), num.Bounds(low-3, low)},
		{"mul", api.Mul, within(3, 5), within(7, 9), num.Bounds(21, 45)},
		{"mul just below 2^32", api.Mul, within(2, 0xFFFF), within(3, 0x10001), num.Bounds(6, low)},
		{"mul, just 2^32", api.Mul, within(2, 1<<16), within(3, 1<<16), num.Bounds(0, low)},
		{"mul of all", api.Mul, num.All(), num.All(), num.Bounds(0, low)},
		{"div", api.Div, num.All(), num.Const(1 << 16), num.Bounds(0, 0xFFFF)},
		{"div by 0", api.Div, within(100, 200), num.Const(0), num.Bounds(0, 200)},
		{"div by low bytes of 0", api.Div, within(100, 200), num.Const(1 << 32), num.Bounds(0, 200)},
		{"div by low bytes", api.Div, within(100, 200), num.Const(1<<32 + 7), num.Bounds(14, 28)},
		{"div by -1", api.Div, num.All(), num.Const(ones), num.Bounds(0, 1)},
		{"mod", api.Mod, num.All(), num.Const(1<<32 + 5), num.Bounds(0, 4)},
		{"mod by low bytes of 0", api.Mod, num.All(), num.Const(1 << 32), num.Bounds(0, low)},
		{"mod by what isn't known", api.Mod, num.All(), num.All(), num.Bounds(0, low)},
		{"and", api.And, num.All(), num.Const(1<<32 + 7), num.Bounds(0, 7)},
		{"or", api.Or, num.All(), num.Const(1<<32 + 8), known(8, low-8, 8, low, 8, low)},
		{"xor", api.Xor, odd(), num.Const(1<<32 + 1), known(0, low-1, 0, low-1, 0, low-1)},
		{"neg", api.Neg, num.Bounds(1, 3), num.All(), num.Bounds(low-3, low)},
		{"neg of all", api.Neg, num.All(), num.All(), num.Bounds(0, low)},
		{"neg of high bytes", api.Neg, known(1<<40, ones<<48&ones, 1<<40, ones, least, most), num.All(), num.Const(0)},
		{"mov", api.Mov, num.Const(7), num.Bounds(3, 4), num.Bounds(3, 4)},
		{"mov of all", api.Mov, num.Const(7), num.All(), num.Bounds(0, low)},
		{"mov brings no sign", api.Mov, num.Const(7), num.Signed(-8, -1), num.Bounds(low-7, low)},
	})
}

func TestShiftsOf32BitsByHand(t *testing.T) { // P8.1
	ask(t, false, []byHand{
		{"lsh by 0", api.Lsh, within(3, 5), num.Const(0), num.Bounds(3, 5)},
		{"lsh by 4", api.Lsh, num.All(), num.Const(4), known(0, low-15, 0, low-15, 0, low-15)},
		{"lsh by 31", api.Lsh, within(0, 1), num.Const(31), known(0, 1<<31, 0, 1<<31, 0, 1<<31)},
		{"lsh by 31, goes out", api.Lsh, within(1, 2), num.Const(31), known(0, 1<<31, 0, 1<<31, 0, 1<<31)},
		{"lsh by 32", api.Lsh, within(3, 5), num.Const(32), num.Bounds(3, 5)},
		{"lsh by 33", api.Lsh, within(3, 5), num.Const(33), known(0, 14, 6, 10, 6, 10)},
		{"lsh by 63", api.Lsh, within(0, 1), num.Const(63), known(0, 1<<31, 0, 1<<31, 0, 1<<31)},
		{"lsh by 64", api.Lsh, within(3, 5), num.Const(64), num.Bounds(3, 5)},
		{"lsh by low bytes", api.Lsh, within(3, 5), num.Const(1<<32 + 1), known(0, 14, 6, 10, 6, 10)},
		{"lsh, what goes out of four bytes is 0", api.Lsh, within(1, 15), num.Const(28), known(0, 0xF<<28, 1<<28, 0xF<<28, 1<<28, 0xF<<28)},
		{"lsh, what goes out of four bytes isn't", api.Lsh, within(1, 16), num.Const(28), known(0, 0xF<<28, 0, 0xF<<28, 0, 0xF<<28)},
		{"lsh by more", api.Lsh, num.Bounds(3, 5), num.Bounds(0, 1), num.Bounds(0, low)},
		{"rsh by 0", api.Rsh, num.All(), num.Const(0), num.Bounds(0, low)},
		{"rsh by 4 lets no high byte in", api.Rsh, num.All(), num.Const(4), num.Bounds(0, 1<<28-1)},
		{"rsh by 31", api.Rsh, num.All(), num.Const(31), num.Bounds(0, 1)},
		{"rsh by 32", api.Rsh, within(3, 5), num.Const(32), num.Bounds(3, 5)},
		{"rsh by 33", api.Rsh, within(3, 5), num.Const(33), num.Bounds(1, 2)},
		{"rsh by 63", api.Rsh, num.All(), num.Const(63), num.Bounds(0, 1)},
		{"rsh by 64", api.Rsh, within(3, 5), num.Const(64), num.Bounds(3, 5)},
		{"rsh by more", api.Rsh, within(3, 5), num.Bounds(1, 2), num.Bounds(0, 5)},
		{"arsh by 0", api.Arsh, num.Bounds(3, 5), num.Const(0), num.Bounds(0, low)},
		{"arsh by 1", api.Arsh, num.Bounds(3, 5), num.Const(1), num.Bounds(0, low)},
		{"arsh by 32", api.Arsh, num.Const(5), num.Bounds(32, 33), num.Bounds(0, low)},
		{"arsh by more", api.Arsh, num.Bounds(3, 5), num.Bounds(1, 2), num.Bounds(0, low)},
		{"arsh of 0 by more", api.Arsh, num.Const(0), num.Bounds(1, 2), num.Bounds(0, low)},
	})
}

func TestOneNumberBehindTheCut(t *testing.T) { // P8.1
	a, b := behindCut(5), behindCut(3)
	for _, c := range []struct {
		op   byte
		want api.Num
	}{
		{api.Add, num.Const(8)},
		{api.Sub, num.Const(2)},
		{api.Mul, num.Const(15)},
		{api.Div, num.Const(1)},
		{api.Or, num.Const(7)},
		{api.And, num.Const(1)},
		{api.Lsh, num.Const(40)},
		{api.Rsh, num.Const(0)},
		{api.Neg, num.Const(low - 4)},
		{api.Mod, num.Bounds(0, 2)}, // its row doesn't say that there is only one
		{api.Xor, num.Const(6)},
		{api.Mov, num.Const(3)},
		{api.Arsh, num.Bounds(0, low)},
	} {
		ask(t, false, []byHand{
			{"both behind the cut", c.op, a, b, c.want},
			{"the first alone", c.op, a, num.Const(3), c.want},
			{"the second alone", c.op, num.Const(5), b, c.want},
		})
	}
	ask(t, false, []byHand{
		{"div by what is 0 then", api.Div, a, behindCut(0), num.Bounds(0, 5)},
		{"mod by what is 0 then", api.Mod, a, behindCut(0), num.Bounds(0, 5)},
		{"mod by what is 1 then", api.Mod, a, behindCut(1), num.Const(0)},
		{"lsh by what is 33 then", api.Lsh, a, behindCut(33), num.Const(10)},
	})
	ask(t, true, []byHand{
		{"of 64 bits it isn't one number", api.Lsh, a, b, num.All()},
		{"of 64 bits it isn't one number", api.Mod, num.Bounds(0, 9), b, num.Bounds(0, 9)},
	})
}

func constants() []uint64 {
	return []uint64{0, 1, 2, 3, 5, 7, 31, 32, 33, 63, 64, 65, 255, 1<<31 - 1, 1 << 31, 1<<31 + 1, low - 1, low, 1 << 32, 1<<32 + 1, 1<<32 + 31, 1<<32 + 7, sign - 1, sign, sign + 1, sign + 1<<31, ones - low, ones - 1, ones}
}

// ofOne tells what has one number only, as its bits alone say, whatever the bounds are.
func ofOne(c uint64) []api.Num {
	return []api.Num{num.Const(c), bitsOnly(c, 0), known(c, 0, c, ones, least, most), known(c, 0, c+1, c-1, 4, -4)}
}

func TestOneNumberEach(t *testing.T) { // P8.1, P8.2
	ofOperations(func(op byte, wide bool) {
		for _, x := range constants() {
			for _, y := range constants() {
				result, _ := alu.Do(op, wide, x, y)
				for i, a := range ofOne(x) {
					for _, b := range []api.Num{num.Const(y), ofOne(y)[i]} {
						if got, ok := Do(op, wide, a, b); got != num.Const(result) || !ok {
							t.Fatalf("Do(%#x, %v, %#x, %#x): %#x, %v, not %#x alone", op, wide, a, b, got, ok, result)
						}
					}
				}
			}
		}
	})
}

func TestOneNumberByHand(t *testing.T) { // P8.1
	ask(t, true, []byHand{
		{"mod", api.Mod, num.Const(5), num.Const(3), num.Const(2)},
		{"mul goes round", api.Mul, num.Const(sign + 3), num.Const(2), num.Const(6)},
		{"lsh goes out", api.Lsh, num.Const(3), num.Const(63), num.Const(sign)},
		{"div by 0", api.Div, num.Const(7), num.Const(0), num.Const(0)},
		{"mod by 0", api.Mod, num.Const(7), num.Const(0), num.Const(7)},
		{"arsh", api.Arsh, num.Const(sign), num.Const(63), num.Const(ones)},
		{"whatever the bounds are", api.Add, known(5, 0, 7, 9, 7, 9), bitsOnly(1, 0), num.Const(6)},
	})
	ask(t, false, []byHand{
		{"arsh", api.Arsh, num.Const(1 << 31), num.Const(31), num.Const(low)},
		{"arsh of high bytes", api.Arsh, num.Const(ones - low + 64), num.Const(36), num.Const(4)},
		{"add goes round", api.Add, num.Const(low), num.Const(2), num.Const(1)},
		{"mod of high bytes", api.Mod, num.Const(1<<32 + 5), num.Const(1<<32 + 3), num.Const(2)},
		{"mod by low bytes of 0", api.Mod, num.Const(ones), num.Const(1 << 32), num.Const(low)},
		{"neg", api.Neg, num.Const(1), num.Const(0), num.Const(low)},
	})
}

func TestOfNoOperation(t *testing.T) { // P8.1
	for op := range 256 {
		want := slices.Contains(operations(), byte(op))
		for _, wide := range []bool{true, false} {
			for _, a := range edges() {
				for _, b := range []api.Num{a, num.Const(3), num.All(), {}} {
					got, ok := Do(byte(op), wide, a, b)
					if ok != want || !ok && got != num.All() {
						t.Fatalf("Do(%#x, %v, %#x, %#x): %#x, %v", op, wide, a, b, got, ok)
					}
				}
			}
		}
	}
}

func TestOfEmpty(t *testing.T) { // P8.1
	none := within(5, 4)
	ask(t, true, []byHand{
		{"add", api.Add, none, num.Const(1), num.All()},
		{"add of more", api.Add, none, num.Bounds(1, 2), num.Const(6)},
		{"add of what is far apart goes round", api.Add, within(ones, 5), within(1, 2), num.Bounds(0, 7)},
		{"add, with a sign", api.Add, signed(5, 4), signed(0, 1), num.Const(5)},
		{"sub", api.Sub, none, within(1, 1), num.All()},
		{"sub of what is far apart goes round", api.Sub, within(10, 3), within(4, 5), within(5, ones)},
		{"mul", api.Mul, none, within(1, 1), num.All()},
		{"mul by 0", api.Mul, none, within(0, 0), num.Const(0)},
		{"mul of what is far apart goes round", api.Mul, within(1<<40, 5), within(1<<24, 6), num.Bounds(0, 30)},
		{"div", api.Div, none, num.Const(2), num.Const(2)},
		{"div by 1", api.Div, none, num.Const(1), num.All()},
		{"div by more", api.Div, none, num.Bounds(1, 2), num.Bounds(0, 4)},
		{"mod", api.Mod, none, num.Const(9), num.Bounds(0, 4)},
		{"and", api.And, none, num.All(), num.Bounds(0, 4)},
		{"or", api.Or, none, num.All(), within(5, ones)},
		{"xor", api.Xor, none, num.All(), num.All()},
		{"lsh", api.Lsh, none, num.Const(1), num.All()},
		{"rsh", api.Rsh, none, num.Const(1), num.Const(2)},
		{"rsh by more", api.Rsh, none, num.All(), num.Bounds(0, 4)},
		{"arsh", api.Arsh, signed(5, 4), num.Const(1), num.Const(2)},
		{"arsh by more", api.Arsh, signed(5, 4), num.All(), num.Signed(0, 4)},
		{"neg", api.Neg, signed(5, 4), num.All(), num.All()},
		{"neg of one number that bounds speak against", api.Neg, known(5, 0, 7, 9, 7, 9), num.All(), num.All()},
		{"mov", api.Mov, num.Const(1), none, num.All()},
		{"mov, with a sign", api.Mov, num.Const(1), signed(5, 4), num.All()},
		{"mov of a pattern that no number within has", api.Mov, num.Const(1), known(8, 3, 0, 7, least, most), num.All()},
	})
	ask(t, false, []byHand{
		{"add", api.Add, none, num.Bounds(1, 2), num.Bounds(0, low)},
		{"and", api.And, none, num.Const(9), known(0, 9, 0, 9, 0, 9)},
		{"mov", api.Mov, num.Const(1), none, num.Bounds(0, low)},
		{"mov of what only bounds with a sign speak against", api.Mov, num.Const(1), known(0, 3, 0, 3, 5, 4), num.Bounds(0, 3)},
	})
}

func TestOfBitsInBoth(t *testing.T) { // P8.1
	both := known(7, 5, 0, ones, least, most) // 2, 3, 6 or 7
	ask(t, true, []byHand{
		{"add", api.Add, both, num.Const(0), known(2, 5, 2, 7, 2, 7)},
		{"sub", api.Sub, both, num.Const(0), known(2, 5, 2, 7, 2, 7)},
		{"and", api.And, both, num.Const(6), known(2, 4, 2, 6, 2, 6)},
		{"or", api.Or, both, num.Const(8), known(10, 5, 10, 15, 10, 15)},
		{"xor", api.Xor, num.Const(2), both, known(0, 5, 0, 5, 0, 5)},
		{"lsh", api.Lsh, both, num.Const(1), known(4, 10, 4, 14, 4, 14)},
		{"rsh", api.Rsh, both, num.Const(1), known(1, 2, 1, 3, 1, 3)},
		{"arsh", api.Arsh, both, num.Const(1), known(1, 2, 1, 3, 1, 3)},
		{"neg", api.Neg, bitsOnly(5, 1), num.All(), known(ones-7, 7, ones-7, ones, -8, -1)},
		{"mov", api.Mov, num.Const(1), both, known(2, 5, 2, 7, 2, 7)},
		{"no shift by one number", api.Lsh, num.Const(1), bitsOnly(1, 1), num.All()},
	})
	for _, op := range operations() {
		for _, wide := range []bool{true, false} {
			if got, _ := Do(op, wide, both, bitsOnly(ones, ones)); !tnum.May(got.Bits) {
				t.Errorf("Do(%#x, %v) tells bits in both: %#x", op, wide, got)
			}
		}
	}
}

// told is a second telling of a row: bounds as numbers that don't go round, nil where it says none.
type told struct {
	bits               api.Tnum
	ulo, uhi, slo, shi *big.Int
}

func whole(x uint64) *big.Int { return new(big.Int).SetUint64(x) }

func power(n uint64) *big.Int { return new(big.Int).Lsh(big.NewInt(1), uint(n)) }

func plus(x, y *big.Int) *big.Int { return new(big.Int).Add(x, y) }

func less(x, y *big.Int) *big.Int { return new(big.Int).Sub(x, y) }

// fits answers whether a number is one with a sign.
func fits(x *big.Int) bool { return x.Cmp(power(63)) < 0 && x.Cmp(new(big.Int).Neg(power(63))) >= 0 }

func (k *told) without(lo, hi *big.Int) { k.ulo, k.uhi = lo, hi }

func (k *told) with(lo, hi *big.Int) { k.slo, k.shi = lo, hi }

func (k *told) num() api.Num {
	x, round := num.All(), less(power(64), big.NewInt(1))
	cut := func(n *big.Int) uint64 { return new(big.Int).And(n, round).Uint64() }
	x.Bits = k.bits
	if k.ulo != nil {
		x.ULo, x.UHi = cut(k.ulo), cut(k.uhi)
	}
	if k.slo != nil {
		x.SLo, x.SHi = k.slo.Int64(), k.shi.Int64()
	}
	return x
}

// rowTold is asked of what isn't cut any more; size is how many bits shifts go round at.
func rowTold(op byte, a, b api.Num, size uint64) api.Num {
	k := &told{bits: tnum.All()}
	switch op {
	case api.Add, api.Sub, api.Mul:
		k.reckon(op, a, b)
	case api.Div, api.Mod:
		k.divide(op, a, b)
	case api.And:
		k.bits = tnum.And(a.Bits, b.Bits)
		k.without(new(big.Int), whole(slices.Min([]uint64{a.UHi, b.UHi})))
	case api.Or:
		k.bits = tnum.Or(a.Bits, b.Bits)
		k.without(whole(slices.Max([]uint64{a.ULo, b.ULo})), whole(ones))
	case api.Xor:
		k.bits = tnum.Xor(a.Bits, b.Bits)
	case api.Neg:
		return rowTold(api.Sub, num.Const(0), a, size)
	case api.Mov:
		return b
	default:
		k.shift(op, a, b, size)
	}
	return k.num()
}

func (k *told) reckon(op byte, a, b api.Num) {
	switch op {
	case api.Add:
		k.bits = tnum.Add(a.Bits, b.Bits)
		if hi := plus(whole(a.UHi), whole(b.UHi)); hi.Cmp(power(64)) < 0 {
			k.without(plus(whole(a.ULo), whole(b.ULo)), hi)
		}
		lo, hi := plus(big.NewInt(a.SLo), big.NewInt(b.SLo)), plus(big.NewInt(a.SHi), big.NewInt(b.SHi))
		if fits(lo) && fits(hi) {
			k.with(lo, hi)
		}
	case api.Sub:
		k.bits = tnum.Sub(a.Bits, b.Bits)
		if lo := less(whole(a.ULo), whole(b.UHi)); lo.Sign() >= 0 {
			k.without(lo, less(whole(a.UHi), whole(b.ULo)))
		}
		lo, hi := less(big.NewInt(a.SLo), big.NewInt(b.SHi)), less(big.NewInt(a.SHi), big.NewInt(b.SLo))
		if fits(lo) && fits(hi) {
			k.with(lo, hi)
		}
	case api.Mul:
		if whole(a.UHi).Cmp(power(32)) < 0 && whole(b.UHi).Cmp(power(32)) < 0 {
			k.without(new(big.Int).Mul(whole(a.ULo), whole(b.ULo)), new(big.Int).Mul(whole(a.UHi), whole(b.UHi)))
		}
	}
}

func (k *told) divide(op byte, a, b api.Num) {
	c, one := num.IsConst(b)
	switch {
	case !one || c == 0:
		k.without(new(big.Int), whole(a.UHi))
	case op == api.Div:
		k.without(new(big.Int).Quo(whole(a.ULo), whole(c)), new(big.Int).Quo(whole(a.UHi), whole(c)))
	default:
		k.without(new(big.Int), whole(slices.Min([]uint64{a.UHi, c - 1})))
	}
}

func (k *told) shift(op byte, a, b api.Num, size uint64) {
	c, one := num.IsConst(b)
	by := c % size
	switch {
	case op == api.Arsh && size == 32:
	case op == api.Lsh && one:
		k.bits = tnum.Lsh(a.Bits, by)
		if hi := new(big.Int).Mul(whole(a.UHi), power(by)); hi.Cmp(power(64)) < 0 {
			k.without(new(big.Int).Mul(whole(a.ULo), power(by)), hi)
		}
	case op == api.Rsh && one:
		k.bits = tnum.Rsh(a.Bits, by)
		k.without(new(big.Int).Quo(whole(a.ULo), power(by)), new(big.Int).Quo(whole(a.UHi), power(by)))
	case op == api.Rsh:
		k.without(new(big.Int), whole(a.UHi))
	case op == api.Arsh && one:
		k.bits = tnum.Arsh(a.Bits, by)
		// Div goes towards what is less, as a shift does.
		k.with(new(big.Int).Div(big.NewInt(a.SLo), power(by)), new(big.Int).Div(big.NewInt(a.SHi), power(by)))
	case op == api.Arsh:
		k.with(big.NewInt(slices.Min([]int64{a.SLo, 0})), big.NewInt(slices.Max([]int64{a.SHi, -1})))
	}
}

func doTold(op byte, wide bool, a, b api.Num) api.Num {
	x, first := num.IsConst(a)
	y, second := num.IsConst(b)
	if first && second {
		result, _ := alu.Do(op, wide, x, y)
		return num.Const(result)
	}
	if wide {
		got, _ := num.Refine(rowTold(op, a, b, 64))
		return got
	}
	got, _ := num.Refine(rowTold(op, num.Cut(a, 4), num.Cut(b, 4), 32))
	return num.Cut(got, 4)
}

// edges may be empty, may have bits in both Value and Mask, and may not be refined.
func edges() []api.Num {
	l := []api.Num{
		num.All(), num.Bounds(0, 1), num.Bounds(0, 3), num.Bounds(5, 9), num.Bounds(0, 63), num.Bounds(31, 33), num.Bounds(0, low), num.Bounds(3, 1<<32), num.Bounds(low-4, 1<<32+4), num.Bounds(0, most), num.Bounds(sign, ones), num.Bounds(sign-3, sign+3), num.Bounds(1, ones), num.Bounds(ones-3, ones),
		num.Signed(-3, -1), num.Signed(-5, 3), num.Signed(least, -1), num.Signed(least, 0), num.Signed(least, least+7), num.Signed(most-7, most), num.Signed(-1<<31, 1<<31-1), num.Signed(least+1, most),
		within(0, 7), within(3, 3), within(1<<32, 1<<32+9), within(sign-1, sign), within(5, ones-9), signed(-9, 9), signed(-1<<32, 1<<33), signed(4, 9), signed(-1, -1),
		odd(), bitsOnly(0, ones-1), bitsOnly(4, 3), bitsOnly(sign, most), bitsOnly(0, most), bitsOnly(0, sign), bitsOnly(0xF0, 0xFF00), bitsOnly(1<<31, low>>1), behindCut(0), behindCut(3), behindCut(33), behindCut(1 << 31),
		bitsOnly(7, 5), bitsOnly(ones, ones), bitsOnly(sign+1, sign+1), known(5, 1, 4, 5, 4, 5), bitsOnly(5, 0), known(5, 0, 7, 9, 7, 9), {},
		within(5, 4), signed(5, 4), within(ones, 5), within(1<<40, 6), signed(most, least), known(8, 3, 0, 7, least, most), known(0, ones, 0, 5, -9, -1), known(0, ones, 6, 2, 6, 2),
	}
	for _, c := range constants() {
		l = append(l, num.Const(c))
	}
	return l
}

func ofPairs(f func(a, b api.Num)) {
	for _, a := range edges() {
		for _, b := range edges() {
			f(a, b)
		}
	}
	ofDrawn(func(a, b api.Num, _, _ uint64) { f(a, b) })
}

// ofDrawn asks pairs, each with a number that it was drawn about; of every third pair, the second has one number only.
func ofDrawn(f func(a, b api.Num, x, y uint64)) {
	seed := uint64(8)
	for i := range 6000 {
		a, x := samples.Known(&seed)
		b, y := samples.Known(&seed)
		if i%3 == 0 {
			b = num.Const(y)
		}
		f(a, b, x, y)
	}
}

func ofOperations(f func(op byte, wide bool)) {
	for _, op := range operations() {
		f(op, true)
		f(op, false)
	}
}

func TestDoToldTwice(t *testing.T) { // P8.1
	ofPairs(func(a, b api.Num) {
		ofOperations(func(op byte, wide bool) {
			want := doTold(op, wide, a, b)
			if got, ok := Do(op, wide, a, b); got != want || !ok {
				t.Fatalf("Do(%#x, %v, %#x, %#x): %#x, %v, not %#x", op, wide, a, b, got, ok, want)
			}
		})
	})
}

func TestResultsAreHad(t *testing.T) { // P8.2
	asked := 0
	ofDrawn(func(a, b api.Num, x, y uint64) {
		l, m := small.Some(a, x), small.Some(b, y)
		asked += len(l) * len(m)
		ofOperations(func(op byte, wide bool) {
			got, _ := Do(op, wide, a, b)
			for _, n := range l {
				for _, k := range m {
					if result, _ := alu.Do(op, wide, n, k); !num.Has(got, result) {
						t.Fatalf("Do(%#x, %v, %#x, %#x): %#x, that has not %#x of %#x and %#x", op, wide, a, b, got, result, n, k)
					}
				}
			}
		})
	})
	if asked < 30000 {
		t.Errorf("only %d pairs of numbers were asked", asked)
	}
}

func TestResultsOfSmallAreHad(t *testing.T) { // P8.1, P8.2
	ends := [][2]int{{0, 7}, {1, 4}, {3, 5}, {6, 6}}
	for _, first := range small.Windows() {
		// Shifts go round at 32 and at 64.
		for _, second := range append(small.Windows(), 28, 60) {
			l, m := small.In(first, ends...), small.In(second, ends...)
			ofOperations(func(op byte, wide bool) {
				results := resultsOf(op, wide, first, second)
				for _, a := range l {
					for _, b := range m {
						checkSmall(t, op, wide, a, b, results)
					}
				}
			})
		}
	}
}

// resultsOf tells those of all numbers of two windows.
func resultsOf(op byte, wide bool, first, second uint64) [small.Size][small.Size]uint64 {
	var l [small.Size][small.Size]uint64
	for i := range l {
		for j := range l[i] {
			l[i][j], _ = alu.Do(op, wide, first+uint64(i), second+uint64(j))
		}
	}
	return l
}

func checkSmall(t *testing.T, op byte, wide bool, a, b small.Known, results [small.Size][small.Size]uint64) {
	t.Helper()
	got, ok := Do(op, wide, a.Num, b.Num)
	for _, i := range a.Had {
		for _, j := range b.Had {
			if !ok || !num.Has(got, results[i][j]) {
				t.Fatalf("Do(%#x, %v, %#x, %#x): %#x, %v, that has not %#x", op, wide, a.Num, b.Num, got, ok, results[i][j])
			}
		}
	}
}

func TestWhatIsHandedInStays(t *testing.T) { // P8.1
	ofPairs(func(a, b api.Num) {
		x, y := a, b
		ofOperations(func(op byte, wide bool) {
			first, _ := Do(op, wide, a, b)
			if second, _ := Do(op, wide, a, b); a != x || b != y || first != second {
				t.Fatalf("Do(%#x, %v, %#x, %#x): %#x, then %#x of %#x, %#x", op, wide, x, y, first, second, a, b)
			}
		})
	})
}
