package alu

import (
	"math"
	"math/big"
	"slices"
	"testing"

	"halberd/api"
	"halberd/samples"
)

const (
	ones   = math.MaxUint64
	sign   = 1 << 63
	sign32 = 1 << 31
	low    = 1<<32 - 1
)

func operationNumbers() []byte {
	return []byte{0x00, 0x10, 0x20, 0x30, 0x40, 0x50, 0x60, 0x70, 0x80, 0x90, 0xA0, 0xB0, 0xC0}
}

func conditionNumbers() []byte {
	return []byte{0x10, 0x20, 0x30, 0x40, 0x50, 0x60, 0x70, 0xA0, 0xB0, 0xC0, 0xD0}
}

// edges of numbers, of both sizes; among them are pairs that differ in high bytes alone, or in low bytes alone.
func edges() []uint64 {
	return []uint64{
		0, 1, 2, 3, 7, 10, 31, 32, 33, 63, 64, 65, 95, 96, 127, 128, 255, 256, 0x1234,
		sign32 - 1, sign32, sign32 + 1, low - 1, low,
		1 << 32, 1<<32 + 1, 1<<32 + 7, 7 << 32, 1<<32 + sign32, 1<<40 + 31, 1<<40 + 33, 0x123456789ABCDEF0,
		sign - 1, sign - low, sign, sign + 1, sign + 7, sign + sign32, sign + low, ones - 1, ones, ones - low, ones - low + 7, ones - sign32,
	}
}

// drawn numbers have all lengths, so that some are far apart and some close together.
func drawn(seed *uint64) uint64 {
	x := samples.Draw(seed) >> (samples.Draw(seed) % 64)
	if samples.Draw(seed)%3 == 0 {
		x = -x
	}
	return x
}

func bitsOf(wide bool) uint {
	if wide {
		return 64
	}
	return 32
}

// unsigned and withSign tell a number's low bits as one that is never cut.
func unsigned(x uint64, bits uint) *big.Int {
	n := new(big.Int).SetUint64(x)
	return n.Mod(n, power(bits))
}

func withSign(x uint64, bits uint) *big.Int {
	n := unsigned(x, bits)
	if n.Cmp(power(bits-1)) >= 0 {
		n.Sub(n, power(bits))
	}
	return n
}

func power(n uint) *big.Int {
	return new(big.Int).Lsh(big.NewInt(1), n)
}

// done is a second telling of the chapter's operations, by numbers that don't go round.
func done(op byte, wide bool, a, b uint64) uint64 {
	n := bitsOf(wide)
	x, y, z := unsigned(a, n), unsigned(b, n), new(big.Int)
	by := uint(b % uint64(n))
	switch op {
	case 0x00:
		z.Add(x, y)
	case 0x10:
		z.Sub(x, y)
	case 0x20:
		z.Mul(x, y)
	case 0x30:
		if y.Sign() != 0 {
			z.Quo(x, y)
		}
	case 0x40:
		z.Or(x, y)
	case 0x50:
		z.And(x, y)
	case 0x60:
		z.Mul(x, power(by))
	case 0x70:
		z.Quo(x, power(by))
	case 0x80:
		z.Neg(x)
	case 0x90:
		z.Set(x)
		if y.Sign() != 0 {
			z.Rem(x, y)
		}
	case 0xA0:
		z.Xor(x, y)
	case 0xB0:
		z.Set(y)
	case 0xC0:
		// Div goes towards what is less, as a shift does.
		z.Div(withSign(a, n), power(by))
	}
	return z.Mod(z, power(n)).Uint64()
}

// held is a second telling of the chapter's conditions.
func held(op byte, wide bool, a, b uint64) bool {
	n := bitsOf(wide)
	x, y := unsigned(a, n), unsigned(b, n)
	above, signedAbove := x.Cmp(y), withSign(a, n).Cmp(withSign(b, n))
	switch op {
	case 0x10:
		return above == 0
	case 0x20:
		return above > 0
	case 0x30:
		return above >= 0
	case 0x40:
		return x.And(x, y).Sign() != 0
	case 0x50:
		return above != 0
	case 0x60:
		return signedAbove > 0
	case 0x70:
		return signedAbove >= 0
	case 0xA0:
		return above < 0
	case 0xB0:
		return above <= 0
	case 0xC0:
		return signedAbove < 0
	case 0xD0:
		return signedAbove <= 0
	}
	panic("no condition")
}

func ofPairs(f func(wide bool, a, b uint64)) {
	for _, wide := range []bool{true, false} {
		for _, a := range edges() {
			for _, b := range edges() {
				f(wide, a, b)
			}
		}
		seed := uint64(4)
		for range 3000 {
			a, b := drawn(&seed), drawn(&seed)
			if samples.Draw(&seed)%8 == 0 {
				b = a&low | b&^low
			}
			f(wide, a, b)
		}
	}
}

func TestNumbersAreSo(t *testing.T) { // P4.1, P4.2
	ops := []byte{api.Add, api.Sub, api.Mul, api.Div, api.Or, api.And, api.Lsh, api.Rsh, api.Neg, api.Mod, api.Xor, api.Mov, api.Arsh}
	if !slices.Equal(ops, operationNumbers()) {
		t.Errorf("operations: %x", ops)
	}
	conditions := []byte{api.Jeq, api.Jgt, api.Jge, api.Jset, api.Jne, api.Jsgt, api.Jsge, api.Jlt, api.Jle, api.Jslt, api.Jsle}
	if !slices.Equal(conditions, conditionNumbers()) {
		t.Errorf("conditions: %x", conditions)
	}
}

func TestDoByHand(t *testing.T) { // P4.1
	for _, c := range []struct {
		name string
		op   byte
		wide bool
		a, b uint64
		want uint64
	}{
		{"add", api.Add, true, 3, 4, 7},
		{"add goes round", api.Add, true, ones, 2, 1},
		{"add beyond 32 bits", api.Add, true, low, 1, 1 << 32},
		{"add32 goes round", api.Add, false, low, 2, 1},
		{"add32 of high bytes", api.Add, false, 5<<32 + 1, 9<<32 + 2, 3},
		{"sub", api.Sub, true, 7, 4, 3},
		{"sub goes round", api.Sub, true, 0, 1, ones},
		{"sub32 goes round", api.Sub, false, 0, 1, low},
		{"mul", api.Mul, true, 6, 7, 42},
		{"mul goes round", api.Mul, true, sign + 3, 2, 6},
		{"mul beyond 32 bits", api.Mul, true, 1 << 20, 1 << 20, 1 << 40},
		{"mul32 goes round", api.Mul, false, sign32 + 3, 2, 6},
		{"mul32 of high bytes", api.Mul, false, 1<<32 + 3, 1<<32 + 4, 12},
		{"mul of -1 and -1", api.Mul, true, ones, ones, 1},
		{"div", api.Div, true, 100, 7, 14},
		{"div has no sign", api.Div, true, ones, 2, sign - 1},
		{"div of the least by -1", api.Div, true, sign, ones, 0},
		{"div by 0", api.Div, true, 7, 0, 0},
		{"div32 by 0", api.Div, false, 7, 0, 0},
		{"div32 by low bytes of 0", api.Div, false, 7, 1 << 32, 0},
		{"div by the same", api.Div, true, 7 << 32, 1 << 32, 7},
		{"div32 has no sign", api.Div, false, ones, 2, sign32 - 1},
		{"div32 of high bytes", api.Div, false, 1<<32 + 100, 1<<33 + 7, 14},
		{"or", api.Or, true, 12, 10, 14},
		{"or32", api.Or, false, ones - low + 12, 10, 14},
		{"and", api.And, true, 12, 10, 8},
		{"and32", api.And, false, ones, ones, low},
		{"lsh", api.Lsh, true, 1, 1, 2},
		{"lsh by 31", api.Lsh, true, 1, 31, sign32},
		{"lsh by 32", api.Lsh, true, 1, 32, 1 << 32},
		{"lsh by 63", api.Lsh, true, 3, 63, sign},
		{"lsh by 64", api.Lsh, true, 1, 64, 1},
		{"lsh by 65", api.Lsh, true, 1, 65, 2},
		{"lsh by -1", api.Lsh, true, 1, ones, sign},
		{"lsh32 by 31", api.Lsh, false, 3, 31, sign32},
		{"lsh32 by 32", api.Lsh, false, 1, 32, 1},
		{"lsh32 by 33", api.Lsh, false, 1, 33, 2},
		{"lsh32 by 63", api.Lsh, false, 1, 63, sign32},
		{"lsh32 by 64", api.Lsh, false, 1, 64, 1},
		{"lsh32 goes out", api.Lsh, false, low, 4, 0xFFFFFFF0},
		{"rsh", api.Rsh, true, sign, 63, 1},
		{"rsh by 0", api.Rsh, true, sign, 0, sign},
		{"rsh by 64", api.Rsh, true, sign, 64, sign},
		{"rsh by 65", api.Rsh, true, sign, 65, 1 << 62},
		{"rsh32 by 0", api.Rsh, false, ones, 0, low},
		{"rsh32 lets no high byte in", api.Rsh, false, ones, 4, 1<<28 - 1},
		{"rsh32 by 31", api.Rsh, false, sign32, 31, 1},
		{"rsh32 by 32", api.Rsh, false, sign32, 32, sign32},
		{"neg", api.Neg, true, 1, 0, ones},
		{"neg of 0", api.Neg, true, 0, 5, 0},
		{"neg of the least", api.Neg, true, sign, 5, sign},
		{"neg hangs on a alone", api.Neg, true, 3, 100, ones - 2},
		{"neg32", api.Neg, false, 1, 0, low},
		{"neg32 of the least", api.Neg, false, sign32, 0, sign32},
		{"neg32 of high bytes", api.Neg, false, 1 << 32, 0, 0},
		{"mod", api.Mod, true, 100, 7, 2},
		{"mod has no sign", api.Mod, true, ones, 10, 5},
		{"mod by 0", api.Mod, true, 7, 0, 7},
		{"mod of all bits by 0", api.Mod, true, ones, 0, ones},
		{"mod32 by 0", api.Mod, false, 7, 0, 7},
		{"mod32 of high bytes by 0", api.Mod, false, 1<<32 + 7, 0, 7},
		{"mod32 by low bytes of 0", api.Mod, false, ones, 1 << 32, low},
		{"mod32 has no sign", api.Mod, false, ones, 10, 5},
		{"xor", api.Xor, true, 12, 10, 6},
		{"xor32", api.Xor, false, ones, 10, low - 10},
		{"mov", api.Mov, true, 5, ones, ones},
		{"mov32", api.Mov, false, 5, ones, low},
		{"mov32 brings no sign", api.Mov, false, ones, sign32, sign32},
		{"arsh", api.Arsh, true, 8, 2, 2},
		{"arsh with the sign", api.Arsh, true, sign, 63, ones},
		{"arsh by 0", api.Arsh, true, sign, 0, sign},
		{"arsh by 64", api.Arsh, true, sign, 64, sign},
		{"arsh by 65", api.Arsh, true, sign, 65, sign + 1<<62},
		{"arsh of bit 31", api.Arsh, true, sign32, 31, 1},
		{"arsh32 with the sign", api.Arsh, false, sign32, 31, low},
		{"arsh32 by 4", api.Arsh, false, sign32, 4, 0xF8000000},
		{"arsh32 by 32", api.Arsh, false, sign32, 32, sign32},
		{"arsh32 by 33", api.Arsh, false, sign32, 33, 0xC0000000},
		{"arsh32 of another sign", api.Arsh, false, sign + 64, 4, 4},
	} {
		if got, ok := Do(c.op, c.wide, c.a, c.b); got != c.want || !ok {
			t.Errorf("%s: Do(%#x, %v, %#x, %#x): %#x, %v, not %#x", c.name, c.op, c.wide, c.a, c.b, got, ok, c.want)
		}
	}
}

func TestDoOfPairs(t *testing.T) { // P4.1
	for _, op := range operationNumbers() {
		ofPairs(func(wide bool, a, b uint64) {
			want := done(op, wide, a, b)
			if got, ok := Do(op, wide, a, b); got != want || !ok {
				t.Fatalf("Do(%#x, %v, %#x, %#x): %#x, %v, not %#x", op, wide, a, b, got, ok, want)
			}
		})
	}
}

func TestDoShiftsByEach(t *testing.T) { // P4.1
	for _, op := range []byte{0x60, 0x70, 0xC0} {
		for _, wide := range []bool{true, false} {
			for _, a := range edges() {
				for b := range uint64(300) {
					for _, by := range []uint64{b, b << 32, b + 1<<32, -b} {
						want := done(op, wide, a, by)
						if got, ok := Do(op, wide, a, by); got != want || !ok {
							t.Fatalf("Do(%#x, %v, %#x, %#x): %#x, %v, not %#x", op, wide, a, by, got, ok, want)
						}
					}
				}
			}
		}
	}
}

func TestDoOfNoOperation(t *testing.T) { // P4.1
	for op := range 256 {
		want := slices.Contains(operationNumbers(), byte(op))
		for _, wide := range []bool{true, false} {
			for _, a := range edges() {
				got, ok := Do(byte(op), wide, a, 3)
				if ok != want || !ok && got != 0 {
					t.Fatalf("Do(%#x, %v, %#x, 3): %#x, %v", op, wide, a, got, ok)
				}
			}
		}
	}
}

func TestHoldsByHand(t *testing.T) { // P4.2
	for _, c := range []struct {
		name string
		op   byte
		wide bool
		a, b uint64
		want bool
	}{
		{"jeq", api.Jeq, true, 5, 5, true},
		{"jeq of others", api.Jeq, true, 5, 6, false},
		{"jeq of high bytes", api.Jeq, true, 1<<32 + 5, 5, false},
		{"jeq32 of high bytes", api.Jeq, false, 1<<32 + 5, 5, true},
		{"jne", api.Jne, true, 5, 6, true},
		{"jne of the same", api.Jne, true, ones, ones, false},
		{"jne of high bytes", api.Jne, true, 1<<32 + 5, 5, true},
		{"jne32 of high bytes", api.Jne, false, 1<<32 + 5, 5, false},
		{"jgt", api.Jgt, true, 6, 5, true},
		{"jgt of the same", api.Jgt, true, 5, 5, false},
		{"jgt has no sign", api.Jgt, true, ones, 0, true},
		{"jgt32 of low bytes", api.Jgt, false, 1 << 32, 1, false},
		{"jge of the same", api.Jge, true, 5, 5, true},
		{"jge below", api.Jge, true, 4, 5, false},
		{"jge has no sign", api.Jge, true, sign, sign - 1, true},
		{"jge32 of low bytes", api.Jge, false, 1 << 32, 1, false},
		{"jlt", api.Jlt, true, 4, 5, true},
		{"jlt of the same", api.Jlt, true, 5, 5, false},
		{"jlt has no sign", api.Jlt, true, ones, 0, false},
		{"jlt32 of low bytes", api.Jlt, false, 1 << 32, 1, true},
		{"jle of the same", api.Jle, true, 5, 5, true},
		{"jle above", api.Jle, true, 6, 5, false},
		{"jle has no sign", api.Jle, true, 0, ones, true},
		{"jle32 of the same low bytes", api.Jle, false, 1<<32 + 5, 5, true},
		{"jsgt of 0 and -1", api.Jsgt, true, 0, ones, true},
		{"jsgt of the same", api.Jsgt, true, sign, sign, false},
		{"jsgt of -1 and 0", api.Jsgt, true, ones, 0, false},
		{"jsgt of bit 31", api.Jsgt, true, sign32, 0, true},
		{"jsgt32 of bit 31", api.Jsgt, false, sign32, 0, false},
		{"jsgt32 of the sign beyond", api.Jsgt, false, sign + 1, 0, true},
		{"jsge of the same", api.Jsge, true, ones, ones, true},
		{"jsge of the least", api.Jsge, true, sign, sign - 1, false},
		{"jsge32 of the least", api.Jsge, false, sign32, sign32 - 1, false},
		{"jsge32 of the same low bytes", api.Jsge, false, sign + 7, 7, true},
		{"jslt of -1 and 0", api.Jslt, true, ones, 0, true},
		{"jslt of the same", api.Jslt, true, 7, 7, false},
		{"jslt of low bytes of -1", api.Jslt, true, low, 0, false},
		{"jslt32 of low bytes of -1", api.Jslt, false, low, 0, true},
		{"jsle of the same", api.Jsle, true, sign, sign, true},
		{"jsle of 0 and -1", api.Jsle, true, 0, ones, false},
		{"jsle32 of the greatest and least", api.Jsle, false, sign32 - 1, sign32, false},
		{"jsle of the same numbers", api.Jsle, true, sign32 - 1, sign32, true},
		{"jset", api.Jset, true, 6, 3, true},
		{"jset of none in common", api.Jset, true, 6, 9, false},
		{"jset with 0", api.Jset, true, ones, 0, false},
		{"jset of 0 and 0", api.Jset, true, 0, 0, false},
		{"jset of the sign", api.Jset, true, sign, ones, true},
		{"jset32 of a high bit", api.Jset, false, 1 << 32, ones, false},
		{"jset32 of bit 31", api.Jset, false, sign32, ones, true},
	} {
		if got, ok := Holds(c.op, c.wide, c.a, c.b); got != c.want || !ok {
			t.Errorf("%s: Holds(%#x, %v, %#x, %#x): %v, %v", c.name, c.op, c.wide, c.a, c.b, got, ok)
		}
	}
}

func TestHoldsOfPairs(t *testing.T) { // P4.2
	for _, op := range conditionNumbers() {
		ofPairs(func(wide bool, a, b uint64) {
			want := held(op, wide, a, b)
			if got, ok := Holds(op, wide, a, b); got != want || !ok {
				t.Fatalf("Holds(%#x, %v, %#x, %#x): %v, %v", op, wide, a, b, got, ok)
			}
		})
	}
}

func TestHoldsOfNoCondition(t *testing.T) { // P4.2
	for op := range 256 {
		want := slices.Contains(conditionNumbers(), byte(op))
		for _, wide := range []bool{true, false} {
			for _, a := range edges() {
				for _, b := range []uint64{a, 0, ones} {
					got, ok := Holds(byte(op), wide, a, b)
					if ok != want || !ok && got {
						t.Fatalf("Holds(%#x, %v, %#x, %#x): %v, %v", op, wide, a, b, got, ok)
					}
				}
			}
		}
	}
}

func TestOf32BitsHangsOnLowBytesAlone(t *testing.T) { // P4.3
	ofPairs(func(_ bool, a, b uint64) {
		for _, high := range []uint64{0, 1 << 32, 7 << 32, sign, ones - low} {
			x, y := a&low|high, b&low|(high^1<<33)
			for _, op := range operationNumbers() {
				want, _ := Do(op, false, a, b)
				if got, _ := Do(op, false, x, y); got != want || got > low {
					t.Fatalf("Do(%#x, false, %#x, %#x): %#x, but %#x of %#x, %#x", op, x, y, got, want, a, b)
				}
			}
			for _, op := range conditionNumbers() {
				want, _ := Holds(op, false, a, b)
				if got, _ := Holds(op, false, x, y); got != want {
					t.Fatalf("Holds(%#x, false, %#x, %#x): %v, not as of %#x, %#x", op, x, y, got, a, b)
				}
			}
		}
	})
}

func TestOppositesAreSo(t *testing.T) { // P4.3
	opposites := [][2]byte{{api.Jeq, api.Jne}, {api.Jgt, api.Jle}, {api.Jge, api.Jlt}, {api.Jsgt, api.Jsle}, {api.Jsge, api.Jslt}}
	ofPairs(func(wide bool, a, b uint64) {
		for _, o := range opposites {
			one, _ := Holds(o[0], wide, a, b)
			other, _ := Holds(o[1], wide, a, b)
			if one == other {
				t.Fatalf("of %#x and %#x: %#x and %#x (wide: %v) both tell %v", a, b, o[0], o[1], wide, one)
			}
		}
	})
}
