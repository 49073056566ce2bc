package num

import (
	"math"
	"math/big"
	"testing"

	"halberd/api"
	"halberd/samples"
)

const (
	ones  = math.MaxUint64
	sign  = 1 << 63
	low   = 1<<32 - 1
	least = math.MinInt64
	most  = math.MaxInt64
)

func pat(value, mask uint64) api.Tnum { return api.Tnum{Value: value, Mask: mask} }

func num(value, mask, ulo, uhi uint64, slo, shi int64) api.Num {
	return api.Num{Bits: pat(value, mask), ULo: ulo, UHi: uhi, SLo: slo, SHi: shi}
}

// all is written out, so that All is held against it.
func all() api.Num { return num(0, ones, 0, ones, least, most) }

func one(c uint64) api.Num { return num(c, 0, c, c, int64(c), int64(c)) }

func bitsOnly(value, mask uint64) api.Num { return num(value, mask, 0, ones, least, most) }

func unsigned(lo, hi uint64) api.Num { return num(0, ones, lo, hi, least, most) }

func signed(lo, hi int64) api.Num { return num(0, ones, 0, ones, lo, hi) }

// told is a second telling of what is known: its bits as '0', '1' and '?', the lowest one first, its bounds as numbers that don't go round.
type told struct {
	bits               [64]byte
	ulo, uhi, slo, shi *big.Int
	empty              bool
}

func whole(x uint64) *big.Int { return new(big.Int).SetUint64(x) }

func weight(i int) *big.Int { return new(big.Int).Lsh(big.NewInt(1), uint(i)) }

func toldOf(x api.Num) *told {
	k := &told{ulo: whole(x.ULo), uhi: whole(x.UHi), slo: big.NewInt(x.SLo), shi: big.NewInt(x.SHi)}
	for i := range k.bits {
		k.bits[i] = '0' + byte(x.Bits.Value>>i&1)
		if x.Bits.Mask>>i&1 == 1 {
			k.bits[i] = '?'
		}
	}
	return k
}

func (k *told) num() api.Num {
	x := api.Num{ULo: k.ulo.Uint64(), UHi: k.uhi.Uint64(), SLo: k.slo.Int64(), SHi: k.shi.Int64()}
	for i, b := range k.bits {
		switch b {
		case '1':
			x.Bits.Value |= 1 << i
		case '?':
			x.Bits.Mask |= 1 << i
		}
	}
	return x
}

// ends tells the least and the greatest number of the bits, of which the highest one weighs as much as is handed in.
func (k *told) ends(highest *big.Int) (*big.Int, *big.Int) {
	lo, hi := new(big.Int), new(big.Int)
	for i, b := range k.bits {
		w := weight(i)
		if i == 63 {
			w = highest
		}
		if b == '1' || b == '?' && w.Sign() < 0 {
			lo.Add(lo, w)
		}
		if b == '1' || b == '?' && w.Sign() > 0 {
			hi.Add(hi, w)
		}
	}
	return lo, hi
}

func greater(a, b *big.Int) *big.Int {
	if a.Cmp(b) > 0 {
		return a
	}
	return b
}

func lesser(a, b *big.Int) *big.Int {
	if a.Cmp(b) < 0 {
		return a
	}
	return b
}

func (k *told) unsigned(lo, hi *big.Int) { k.ulo, k.uhi = greater(k.ulo, lo), lesser(k.uhi, hi) }

func (k *told) signed(lo, hi *big.Int) { k.slo, k.shi = greater(k.slo, lo), lesser(k.shi, hi) }

// shifted tells a number as one with a sign, by -1, or without, by 1, where its highest bit is 1.
func shifted(x *big.Int, by int64) *big.Int {
	return new(big.Int).Add(x, new(big.Int).Mul(weight(64), big.NewInt(by)))
}

func (k *told) meet(other [64]byte) {
	for i, b := range other {
		if k.bits[i] == '?' {
			k.bits[i] = b
		} else if b != '?' && b != k.bits[i] {
			k.empty = true
		}
	}
}

func (k *told) common() [64]byte {
	l := toldOf(unsigned(0, 0)).bits
	for i := 63; i >= 0 && k.ulo.Bit(i) == k.uhi.Bit(i); i-- {
		l[i] = '0' + byte(k.ulo.Bit(i))
	}
	return l
}

// steps are those of a round, in their order.
func steps() []func(k *told) {
	return []func(k *told){
		func(k *told) { k.unsigned(k.ends(weight(63))) },
		func(k *told) { k.signed(k.ends(new(big.Int).Neg(weight(63)))) },
		func(k *told) {
			switch {
			case k.ulo.Bit(63) == 0 && k.uhi.Bit(63) == 0:
				k.signed(k.ulo, k.uhi)
			case k.ulo.Bit(63) == 1 && k.uhi.Bit(63) == 1:
				k.signed(shifted(k.ulo, -1), shifted(k.uhi, -1))
			}
		},
		func(k *told) {
			switch {
			case k.slo.Sign() >= 0 && k.shi.Sign() >= 0:
				k.unsigned(k.slo, k.shi)
			case k.slo.Sign() < 0 && k.shi.Sign() < 0:
				k.unsigned(shifted(k.slo, 1), shifted(k.shi, 1))
			}
		},
		func(k *told) { k.empty = k.empty || k.ulo.Cmp(k.uhi) > 0 || k.slo.Cmp(k.shi) > 0 },
		func(k *told) {
			if !k.empty {
				k.meet(k.common())
			}
		},
	}
}

// rounds does some of them; where it is empty, nothing is done any more.
func (k *told) rounds(n int) (api.Num, bool) {
	for range n {
		for _, step := range steps() {
			if !k.empty {
				step(k)
			}
		}
	}
	if k.empty {
		return all(), false
	}
	return k.num(), true
}

func refined(x api.Num) (api.Num, bool) { return toldOf(x).rounds(2) }

func met(a, b api.Num) (api.Num, bool) {
	k, other := toldOf(a), toldOf(b)
	k.unsigned(other.ulo, other.uhi)
	k.signed(other.slo, other.shi)
	k.meet(other.bits)
	return k.rounds(2)
}

func cut(x api.Num, n int) api.Num {
	if n != 1 && n != 2 && n != 4 {
		return x
	}
	k, end := toldOf(all()), weight(8*n)
	for i, b := range toldOf(x).bits {
		k.bits[i] = '0'
		if i < 8*n {
			k.bits[i] = b
		}
	}
	k.unsigned(new(big.Int), new(big.Int).Sub(end, big.NewInt(1)))
	if whole(x.UHi).Cmp(end) < 0 {
		k.unsigned(whole(x.ULo), whole(x.UHi))
	}
	y, _ := k.rounds(2)
	return y
}

// edges have numbers, but for the ones that emptyEdges tells.
func edges() []api.Num {
	l := []api.Num{
		all(), unsigned(0, most), unsigned(sign, ones), unsigned(sign-1, sign), unsigned(1, ones), unsigned(0, ones-1), unsigned(sign-2, ones), unsigned(0, sign),
		signed(least, -1), signed(0, most), signed(-1, 0), signed(-1, -1), signed(0, 0), signed(least, least), signed(most, most), signed(least+1, most), signed(least, most-1), signed(-5, 3),
		unsigned(0, 7), unsigned(3, 4), unsigned(5, 9), unsigned(0xFE, 0x101), unsigned(0, 0xFF), unsigned(0, 0x100), unsigned(0, 0xFFFF), unsigned(0, 1<<16), unsigned(0, low), unsigned(0, 1<<32), unsigned(1<<32, 1<<32+5),
		bitsOnly(0, ones-1), bitsOnly(1, ones-1), bitsOnly(0, most), bitsOnly(sign, most), bitsOnly(5, 0), bitsOnly(ones, 0), bitsOnly(4, 3), bitsOnly(0, sign), bitsOnly(sign-1, sign), bitsOnly(0, 0xFF00), bitsOnly(0x80, ones-0xFF),
		bitsOnly(ones, ones), bitsOnly(7, 5), bitsOnly(sign, sign), bitsOnly(sign+1, sign+1), num(5, 1, 4, 5, 4, 5),
		{}, num(0, 1, 0, 0, 0, 0), num(1, ones-1, 0, 7, least, most), num(1, ones-1, 4, 6, least, most), num(0, ones, 3, 9, -2, 5), num(0, ones, sign-1, ones, least, 5),
	}
	for _, c := range []uint64{0, 1, 2, 0xFF, 0x100, 0xFFFF, 1 << 16, low, 1 << 32, sign - 1, sign, sign + 1, ones - 1, ones} {
		l = append(l, one(c), bitsOnly(c, 0), unsigned(c, c), signed(int64(c), int64(c)))
	}
	return append(l, emptyEdges()...)
}

func emptyEdges() []api.Num {
	return []api.Num{
		// Lower bounds above the upper ones.
		unsigned(1, 0), unsigned(ones, 0), unsigned(sign, sign-1), unsigned(5, 4), signed(0, -1), signed(most, least), signed(1, 0), signed(-1, -2), num(0, ones, 5, 4, 5, 4),
		// Bounds without a sign that leave none of those with one.
		num(0, ones, 0, 5, 6, 9), num(0, ones, 0, 5, -9, -1), num(0, ones, sign, ones, 0, most), num(0, ones, 5, 9, least, 4),
		// Patterns that no number within the bounds has.
		num(8, 3, 0, 7, least, most), num(0, 7, 8, 15, least, most), num(4, 0, 5, ones, least, most), num(0, most, 0, ones, least, -1), num(sign, most, 0, ones, 0, most),
		num(0, 1, 0, ones, 2, most), num(0, 9, 2, 7, least, most), num(12, 2, 8, 11, least, most), num(6, 1, 0, 5, 0, 5), num(1, 1, 2, 9, 2, 9),
		// Those that only the second round finds so.
		num(0, ones-15, 1, 2, least, most), num(0, ones-15, 0, 4, 3, 5), num(15, ones-15, 0, ones, -3, -2),
	}
}

// ofAll asks edges, and drawn ones.
func ofAll(f func(x api.Num)) {
	for _, x := range edges() {
		f(x)
	}
	seed := uint64(7)
	for range 6000 {
		x, _ := samples.Known(&seed)
		f(x)
	}
}

func ofPairs(f func(a, b api.Num)) {
	for _, a := range edges() {
		for _, b := range edges() {
			f(a, b)
		}
	}
	seed := uint64(70)
	for range 4000 {
		a, n := samples.Known(&seed)
		b, _ := samples.Known(&seed)
		// Of two that are drawn alone, hardly any have a number in common.
		if samples.Draw(&seed)%2 == 0 {
			b = all()
			b.ULo, b.UHi = samples.Around(n, &seed)
			b.Bits = pat(n, samples.Draw(&seed)|samples.Draw(&seed))
		}
		f(a, b)
	}
}

// has is a second telling of Has: bit by bit, and by bounds that don't go round.
func has(x api.Num, n uint64) bool {
	k := toldOf(x)
	for i, b := range k.bits {
		if b != '?' && b != '0'+byte(n>>i&1) {
			return false
		}
	}
	with := whole(n)
	if n >= sign {
		with = shifted(with, -1)
	}
	without := whole(n)
	return k.ulo.Cmp(without) <= 0 && without.Cmp(k.uhi) <= 0 && k.slo.Cmp(with) <= 0 && with.Cmp(k.shi) <= 0
}

func TestHasByHand(t *testing.T) { // P7.1
	for _, c := range []struct {
		x    api.Num
		n    uint64
		want bool
	}{
		{all(), 0, true},
		{all(), ones, true},
		{all(), sign, true},
		{one(5), 5, true},
		{one(5), 4, false},
		{one(ones), ones, true},
		{one(ones), 0, false},
		{unsigned(3, 6), 2, false},
		{unsigned(3, 6), 3, true},
		{unsigned(3, 6), 6, true},
		{unsigned(3, 6), 7, false},
		{unsigned(3, 6), ones, false},
		{unsigned(sign-1, sign), sign - 2, false},
		{unsigned(sign-1, sign), sign - 1, true},
		{unsigned(sign-1, sign), sign, true},
		{unsigned(sign-1, sign), sign + 1, false},
		{signed(-2, 1), ones - 2, false},
		{signed(-2, 1), ones - 1, true},
		{signed(-2, 1), ones, true},
		{signed(-2, 1), 0, true},
		{signed(-2, 1), 1, true},
		{signed(-2, 1), 2, false},
		{signed(-2, 1), sign, false},
		{signed(least, -1), sign, true},
		{signed(least, -1), sign - 1, false},
		{signed(0, most), sign - 1, true},
		{signed(0, most), sign, false},
		{bitsOnly(4, 3), 4, true},
		{bitsOnly(4, 3), 7, true},
		{bitsOnly(4, 3), 3, false},
		{bitsOnly(4, 3), 8, false},
		{bitsOnly(7, 3), 4, true},
		{bitsOnly(ones, ones), 0, true},
		{num(1, ones-1, 0, 7, least, most), 3, true},
		{num(1, ones-1, 0, 7, least, most), 4, false},
		{num(1, ones-1, 0, 7, least, most), 9, false},
		{num(0, ones, 2, 9, -5, 4), 4, true},
		{num(0, ones, 2, 9, -5, 4), 5, false},
		{num(0, ones, 2, 9, -5, 4), 1, false},
		{unsigned(5, 4), 4, false},
		{unsigned(5, 4), 5, false},
		{signed(1, 0), 0, false},
		{signed(1, 0), 1, false},
		{num(8, 3, 0, 7, least, most), 8, false},
		{num(8, 3, 0, 7, least, most), 7, false},
		{api.Num{}, 0, true},
		{api.Num{}, 1, false},
	} {
		if got := Has(c.x, c.n); got != c.want {
			t.Errorf("Has(%#x, %#x): %v", c.x, c.n, got)
		}
	}
}

func TestHasNear(t *testing.T) { // P7.1
	ofAll(func(x api.Num) {
		for _, n := range samples.Near(x) {
			if got, want := Has(x, n), has(x, n); got != want {
				t.Fatalf("Has(%#x, %#x): %v", x, n, got)
			}
		}
	})
}

func TestConst(t *testing.T) { // P7.1
	for c, want := range map[uint64]api.Num{
		0:        num(0, 0, 0, 0, 0, 0),
		5:        num(5, 0, 5, 5, 5, 5),
		low:      num(low, 0, low, low, low, low),
		sign - 1: num(sign-1, 0, sign-1, sign-1, most, most),
		sign:     num(sign, 0, sign, sign, least, least),
		ones:     num(ones, 0, ones, ones, -1, -1),
		ones - 4: num(ones-4, 0, ones-4, ones-4, -5, -5),
	} {
		got := Const(c)
		if got != want {
			t.Errorf("Const(%#x): %#x", c, got)
		}
		for _, n := range []uint64{c - 1, c + 1, c ^ sign, ^c, 0, ones} {
			if Has(got, n) != (n == c) {
				t.Errorf("Const(%#x): is %#x in it?", c, n)
			}
		}
		if !Has(got, c) {
			t.Errorf("Const(%#x) has it not", c)
		}
	}
}

func TestAll(t *testing.T) { // P7.1
	if got := All(); got != all() {
		t.Errorf("All(): %#x", got)
	}
	seed := uint64(3)
	for range 1000 {
		if n := samples.Number(&seed); !Has(All(), n) {
			t.Errorf("All() has not %#x", n)
		}
	}
}

func TestIsConst(t *testing.T) { // P7.1
	for _, c := range []uint64{0, 1, 5, low, 1 << 32, sign - 1, sign, ones - 1, ones} {
		if got, ok := IsConst(one(c)); got != c || !ok {
			t.Errorf("IsConst of %#x: %#x, %v", c, got, ok)
		}
		// The bounds are told only where they were refined.
		if got, ok := IsConst(bitsOnly(c, 0)); got != c || !ok {
			t.Errorf("IsConst of the bits of %#x: %#x, %v", c, got, ok)
		}
		if got, ok := IsConst(unsigned(c, c)); got != 0 || ok {
			t.Errorf("IsConst of bounds at %#x: %#x, %v", c, got, ok)
		}
	}
	for i := range 64 {
		mask := uint64(1) << i
		for _, x := range []api.Num{bitsOnly(0, mask), bitsOnly(^mask, mask), bitsOnly(ones, mask), num(5, mask, 5, 5, 5, 5)} {
			if got, ok := IsConst(x); got != 0 || ok {
				t.Errorf("IsConst(%#x): %#x, %v", x, got, ok)
			}
		}
	}
	if got, ok := IsConst(all()); got != 0 || ok {
		t.Errorf("IsConst of all: %#x, %v", got, ok)
	}
}

func TestRefineByHand(t *testing.T) { // P7.2
	for _, c := range []struct {
		name    string
		x, want api.Num
	}{
		{"all", all(), all()},
		{"the chapter's", num(1, ones-1, 0, 7, least, most), num(1, 6, 1, 7, 1, 7)},
		{"one number", one(5), one(5)},
		{"the greatest number", one(ones), one(ones)},
		{"the least one with a sign", one(sign), one(sign)},
		{"a zero value", api.Num{}, one(0)},

		{"1: the lowest bit is 1", bitsOnly(1, ones-1), num(1, ones-1, 1, ones, least+1, most)},
		{"1: the lowest bit is 0", bitsOnly(0, ones-1), num(0, ones-1, 0, ones-1, least, most-1)},
		{"1: all bits known", bitsOnly(5, 0), one(5)},
		{"1: all bits known", bitsOnly(ones, 0), one(ones)},
		{"1: a bit in both", bitsOnly(5, 1), num(4, 1, 4, 5, 4, 5)},
		{"1: all bits in both", bitsOnly(ones, ones), all()},
		{"1: bounds that are closer stay", num(1, ones-1, 3, ones-2, least, most), num(1, ones-1, 3, ones-2, least+1, most)},

		{"2: the highest bit is unknown, others are known", bitsOnly(0, sign), num(0, sign, 0, sign, least, 0)},
		{"2: likewise", bitsOnly(5, sign), num(5, sign, 5, sign+5, least+5, 5)},
		{"2: the highest bit is 1", bitsOnly(sign, most), num(sign, most, sign, ones, least, -1)},
		{"2: the highest bit is 0", bitsOnly(0, most), num(0, most, 0, most, 0, most)},
		{"2: bounds that are closer stay", num(0, ones-1, 0, ones, -5, 6), num(0, ones-1, 0, ones-1, -5, 6)},

		{"3: below 2^63", unsigned(0, 7), num(0, 7, 0, 7, 0, 7)},
		{"3: just below 2^63", unsigned(0, most), num(0, most, 0, most, 0, most)},
		{"3: from 2^63 on", unsigned(sign, ones), num(sign, most, sign, ones, least, -1)},
		{"3: from 2^63 on", unsigned(ones-4, ones-1), num(ones-7, 7, ones-4, ones-1, -5, -2)},
		{"3: on both sides of 2^63", unsigned(sign-1, sign), num(0, ones, sign-1, sign, least, most)},
		{"3: one number", unsigned(sign, sign), one(sign)},
		{"3: bounds that are closer stay", num(0, ones, 0, 9, 3, 6), num(0, 7, 3, 6, 3, 6)},

		{"4: both below 0", signed(-4, -2), num(ones-3, 3, ones-3, ones-1, -4, -2)},
		{"4: the least, to -1", signed(least, -1), num(sign, most, sign, ones, least, -1)},
		{"4: both not below 0", signed(3, 4), num(0, 7, 3, 4, 3, 4)},
		{"4: 0 to the greatest", signed(0, most), num(0, most, 0, most, 0, most)},
		{"4: on both sides of 0", signed(-1, 0), num(0, ones, 0, ones, -1, 0)},
		{"4: one number", signed(-1, -1), one(ones)},
		{"4: one number", signed(0, 0), one(0)},
		{"4: bounds that are closer stay", num(0, ones, sign+5, ones, least, -3), num(sign, most, sign+5, ones-2, least+5, -3)},

		{"6: what all within the bounds have in common", num(1, ones-1, 8, 11, least, most), num(9, 2, 9, 11, 9, 11)},
		{"6: other bits stay", num(1, 0xFFFE, 0xF0, 0xFF, least, most), num(0xF1, 0xE, 0xF1, 0xFF, 0xF1, 0xFF)},

		{"on both sides of 2^63, and of 0", num(0, ones, sign-1, ones, least, most-1), num(0, ones, sign-1, ones, least, most-1)},
		{"3, and by that 4", num(0, ones, 0, 9, -2, 6), num(0, 7, 0, 6, 0, 6)},
		{"4, and by that 3 of the second round", num(0, ones, 0, ones, 3, 6), num(0, 7, 3, 6, 3, 6)},
		{"the second round: by bits that the first one told", num(1, ones-1, 4, 6, least, most), num(5, 2, 5, 6, 5, 6)},
		{"the second round: likewise, with a sign", num(1, ones-1, 0, ones, -4, -2), num(ones-2, 2, ones-2, ones-1, -3, -2)},
		{"two rounds alone: a third one would tell that 3 is the least", num(1, ones-13, 2, 4, least, most), num(3, 0, 2, 3, 2, 3)},
		{"no number is had, which no round tells", num(1, 4, 2, 4, 2, 4), num(1, 4, 2, 4, 2, 4)},
	} {
		if got, ok := Refine(c.x); got != c.want || !ok {
			t.Errorf("%s: of %#x: %#x, %v, not %#x", c.name, c.x, got, ok, c.want)
		}
	}
}

func TestRefineOfEmpty(t *testing.T) { // P7.2
	for _, x := range emptyEdges() {
		if got, ok := Refine(x); got != all() || ok {
			t.Errorf("Refine(%#x): %#x, %v", x, got, ok)
		}
	}
}

func TestRefineToldTwice(t *testing.T) { // P7.2
	ofAll(func(x api.Num) {
		want, whether := refined(x)
		if got, ok := Refine(x); got != want || ok != whether {
			t.Fatalf("Refine(%#x): %#x, %v, not %#x, %v", x, got, ok, want, whether)
		}
	})
}

// window has 16 numbers on both sides of a place: of 0, of 2^63, of neither.
func windows() []uint64 { return []uint64{-8 & ones, sign - 8, 0, 1 << 32, 0xF8} }

// small tells what may be known of numbers of a window: patterns of the lowest bits, bounds at some of its numbers, or none.
func small(base uint64, f func(x api.Num)) {
	ends := []uint64{base, base + 3, base + 7, base + 8, base + 10, base + 15}
	for value := range uint64(8) {
		for mask := range uint64(8) {
			for _, high := range []api.Tnum{pat(base&^15, 8), pat((base+15)&^15, 8), pat(base&^7, 0), pat(0, ones-7), pat((base+8)&sign, ones>>1-7)} {
				b := pat(high.Value|value, high.Mask|mask)
				for _, lo := range ends {
					for _, hi := range ends {
						f(api.Num{Bits: b, ULo: lo, UHi: hi, SLo: least, SHi: most})
						f(api.Num{Bits: b, UHi: ones, SLo: int64(lo), SHi: int64(hi)})
						f(api.Num{Bits: b, ULo: min(lo, hi), UHi: max(lo, hi), SLo: int64(hi) - 9, SHi: int64(lo) + 9})
					}
				}
			}
		}
	}
}

func TestRefineOfSmall(t *testing.T) { // P7.2, P7.6
	for _, base := range windows() {
		small(base, func(x api.Num) {
			got, ok := Refine(x)
			if !ok && got != all() {
				t.Fatalf("Refine(%#x): %#x beside false", x, got)
			}
			for i := range uint64(24) {
				n := base + i - 4
				if had := has(x, n); had != (ok && Has(got, n)) {
					t.Fatalf("Refine(%#x): %#x, %v: is %#x in it?", x, got, ok, n)
				}
			}
		})
	}
}

func TestRefineKeepsNumbers(t *testing.T) { // P7.6
	ofAll(func(x api.Num) {
		got, ok := Refine(x)
		for _, n := range append(samples.Near(x), samples.Near(got)...) {
			if had := Has(x, n); had != (ok && Has(got, n)) {
				t.Fatalf("Refine(%#x): %#x, %v: is %#x in it?", x, got, ok, n)
			}
		}
	})
	seed := uint64(8)
	for range 6000 {
		x, n := samples.Known(&seed)
		if got, ok := Refine(x); Has(x, n) != (ok && Has(got, n)) {
			t.Fatalf("Refine(%#x): %#x, %v: is %#x in it?", x, got, ok, n)
		}
	}
}

func TestBoundsByHand(t *testing.T) { // P7.3
	for _, c := range []struct {
		lo, hi uint64
		want   api.Num
	}{
		{0, 0, one(0)},
		{5, 5, one(5)},
		{ones, ones, one(ones)},
		{sign, sign, one(sign)},
		{0, ones, all()},
		{0, 255, num(0, 255, 0, 255, 0, 255)},
		{4, 7, num(4, 3, 4, 7, 4, 7)},
		{3, 4, num(0, 7, 3, 4, 3, 4)},
		{0, most, num(0, most, 0, most, 0, most)},
		{sign - 1, sign, num(0, ones, sign-1, sign, least, most)},
		{sign, ones, num(sign, most, sign, ones, least, -1)},
		{ones - 1, ones, num(ones-1, 1, ones-1, ones, -2, -1)},
		{1, ones, num(0, ones, 1, ones, least, most)},
		{0, ones - 1, num(0, ones, 0, ones-1, least, most)},
		{1, 0, all()},
		{ones, 0, all()},
		{sign, sign - 1, all()},
		{7, 6, all()},
	} {
		if got := Bounds(c.lo, c.hi); got != c.want {
			t.Errorf("Bounds(%#x, %#x): %#x, not %#x", c.lo, c.hi, got, c.want)
		}
	}
}

func TestSignedByHand(t *testing.T) { // P7.3
	for _, c := range []struct {
		lo, hi int64
		want   api.Num
	}{
		{0, 0, one(0)},
		{5, 5, one(5)},
		{-1, -1, one(ones)},
		{least, least, one(sign)},
		{most, most, one(sign - 1)},
		{least, most, all()},
		{0, most, num(0, most, 0, most, 0, most)},
		{least, -1, num(sign, most, sign, ones, least, -1)},
		{3, 4, num(0, 7, 3, 4, 3, 4)},
		{-4, -1, num(ones-3, 3, ones-3, ones, -4, -1)},
		{-1, 0, num(0, ones, 0, ones, -1, 0)},
		{-5, 7, num(0, ones, 0, ones, -5, 7)},
		{least + 1, most, num(0, ones, 0, ones, least+1, most)},
		{least, most - 1, num(0, ones, 0, ones, least, most-1)},
		{1, 0, all()},
		{0, -1, all()},
		{-1, -2, all()},
		{most, least, all()},
	} {
		if got := Signed(c.lo, c.hi); got != c.want {
			t.Errorf("Signed(%d, %d): %#x, not %#x", c.lo, c.hi, got, c.want)
		}
	}
}

func TestBoundsToldTwice(t *testing.T) { // P7.3, P7.6
	seed := uint64(9)
	for range 6000 {
		n := samples.Number(&seed)
		lo, hi := samples.Around(n, &seed)
		slo, shi := samples.SignedAround(int64(n), &seed)
		for _, c := range [][2]uint64{{lo, hi}, {hi, lo}, {n, n}, {n, n + 1}, {n + 1, n}} {
			want, _ := refined(unsigned(c[0], c[1]))
			if got := Bounds(c[0], c[1]); got != want || c[0] <= n && n <= c[1] && !Has(got, n) {
				t.Fatalf("Bounds(%#x, %#x): %#x, not %#x", c[0], c[1], got, want)
			}
		}
		for _, c := range [][2]int64{{slo, shi}, {shi, slo}, {int64(n), int64(n)}, {int64(lo), int64(hi)}} {
			want, _ := refined(signed(c[0], c[1]))
			if got := Signed(c[0], c[1]); got != want || c[0] <= int64(n) && int64(n) <= c[1] && !Has(got, n) {
				t.Fatalf("Signed(%d, %d): %#x, not %#x", c[0], c[1], got, want)
			}
		}
	}
}

func TestMeetByHand(t *testing.T) { // P7.4
	for _, c := range []struct {
		name string
		a, b api.Num
		want api.Num
		ok   bool
	}{
		{"the chapter's", one(1), one(2), all(), false},
		{"one number", one(5), one(5), one(5), true},
		{"all and one", all(), one(ones), one(ones), true},
		{"all and all", all(), all(), all(), true},
		{"the greater lower bound, the lesser upper one", unsigned(2, 9), unsigned(4, 20), num(0, 15, 4, 9, 4, 9), true},
		{"the one within the other", unsigned(2, 90), unsigned(4, 5), num(4, 1, 4, 5, 4, 5), true},
		{"one number in common", unsigned(2, 9), unsigned(9, 20), one(9), true},
		{"none in common", unsigned(2, 8), unsigned(9, 20), all(), false},
		{"with a sign", signed(-9, 2), signed(-4, 7), num(0, ones, 0, ones, -4, 2), true},
		{"with a sign, none", signed(-9, -5), signed(-4, 7), all(), false},
		{"with a sign, one number", signed(-9, -4), signed(-4, 7), one(ones - 3), true},
		{"with a sign and without", unsigned(0, 9), signed(-4, 3), num(0, 3, 0, 3, 0, 3), true},
		{"with a sign and without, none", unsigned(0, 9), signed(-4, -3), all(), false},
		{"bits", bitsOnly(1, ones-1), bitsOnly(2, ones-2), num(3, ones-3, 3, ones, least+3, most), true},
		{"bits, none", bitsOnly(1, ones-1), bitsOnly(0, ones-1), all(), false},
		{"bits and bounds", bitsOnly(1, ones-1), unsigned(0, 7), num(1, 6, 1, 7, 1, 7), true},
		{"bits and bounds, none", bitsOnly(8, 7), unsigned(0, 7), all(), false},
		{"bits in both", bitsOnly(5, 1), bitsOnly(4, 3), num(4, 1, 4, 5, 4, 5), true},
		{"bits in both, against known ones", bitsOnly(7, 3), one(4), one(4), true},
		{"both sides of 2^63", unsigned(sign-1, sign), signed(0, most), one(sign - 1), true},
		{"both sides of 2^63", unsigned(sign-1, sign), signed(least, -1), one(sign), true},
		{"a zero value", api.Num{}, all(), one(0), true},
		{"what is empty", unsigned(5, 4), all(), all(), false},
		{"what is empty", all(), signed(5, 4), all(), false},
		{"what the second round finds empty", bitsOnly(0, ones-15), unsigned(1, 2), all(), false},
		{"two rounds alone", bitsOnly(1, ones-13), unsigned(2, 4), num(3, 0, 2, 3, 2, 3), true},
	} {
		for _, p := range [][2]api.Num{{c.a, c.b}, {c.b, c.a}} {
			if got, ok := Meet(p[0], p[1]); got != c.want || ok != c.ok {
				t.Errorf("%s: Meet(%#x, %#x): %#x, %v", c.name, p[0], p[1], got, ok)
			}
		}
	}
}

func TestMeetToldTwice(t *testing.T) { // P7.4
	ofPairs(func(a, b api.Num) {
		want, whether := met(a, b)
		if got, ok := Meet(a, b); got != want || ok != whether {
			t.Fatalf("Meet(%#x, %#x): %#x, %v, not %#x, %v", a, b, got, ok, want, whether)
		}
	})
}

func TestMeetHasWhatBothHave(t *testing.T) { // P7.4, P7.6
	ofPairs(func(a, b api.Num) {
		got, ok := Meet(a, b)
		for _, n := range append(samples.Near(a), samples.Near(b)...) {
			if both := Has(a, n) && Has(b, n); both != (ok && Has(got, n)) {
				t.Fatalf("Meet(%#x, %#x): %#x, %v: is %#x in it?", a, b, got, ok, n)
			}
		}
	})
}

func TestCutByHand(t *testing.T) { // P7.5
	for _, c := range []struct {
		name string
		x    api.Num
		n    int
		want api.Num
	}{
		{"the chapter's", all(), 1, num(0, 255, 0, 255, 0, 255)},
		{"all to two", all(), 2, num(0, 0xFFFF, 0, 0xFFFF, 0, 0xFFFF)},
		{"all to four", all(), 4, num(0, low, 0, low, 0, low)},
		{"all to eight", all(), 8, all()},
		{"a number that fits", one(5), 1, one(5)},
		{"one that just fits", one(255), 1, one(255)},
		{"one that just doesn't", one(256), 1, one(0)},
		{"one that doesn't", one(0x12345), 2, one(0x2345)},
		{"-1 to four", one(ones), 4, one(low)},
		{"-1 to one", one(ones), 1, one(255)},
		{"the least to four", one(sign), 4, one(0)},
		{"bounds that fit", unsigned(3, 9), 1, num(0, 15, 3, 9, 3, 9)},
		{"bounds that just fit one", unsigned(3, 0xFF), 1, num(0, 0xFF, 3, 0xFF, 3, 0xFF)},
		{"bounds that just don't fit one", unsigned(3, 0x100), 1, num(0, 0xFF, 0, 0xFF, 0, 0xFF)},
		{"bounds that just fit two", unsigned(0x300, 0xFFFF), 2, num(0, 0xFFFF, 0x300, 0xFFFF, 0x300, 0xFFFF)},
		{"bounds that just don't fit two", unsigned(0x300, 0x10000), 2, num(0, 0xFFFF, 0, 0xFFFF, 0, 0xFFFF)},
		{"bounds that just fit four", unsigned(3, low), 4, num(0, low, 3, low, 3, low)},
		{"bounds that just don't fit four", unsigned(3, 1<<32), 4, num(0, low, 0, low, 0, low)},
		{"bounds that differ in high bytes alone", unsigned(0x1FF, 0x200), 1, num(0, 0xFF, 0, 0xFF, 0, 0xFF)},
		{"bits that are known", bitsOnly(0x81, ones-0xFF), 1, one(0x81)},
		{"bits that are known, higher ones fall away", bitsOnly(0x1234, 0xF0), 1, num(4, 0xF0, 4, 0xF4, 4, 0xF4)},
		{"bits, and bounds that don't fit", num(1, ones-1, 0, 0x100, least, most), 1, num(1, 0xFE, 1, 0xFF, 1, 0xFF)},
		{"bits, and bounds that fit", num(1, ones-1, 4, 6, least, most), 1, num(5, 2, 5, 6, 5, 6)},
		{"bounds with a sign alone are no bounds without", signed(0, 5), 1, num(0, 255, 0, 255, 0, 255)},
		{"a sign falls away", signed(-5, -1), 1, num(0, 255, 0, 255, 0, 255)},
		{"the fourth byte's highest bit is no sign", bitsOnly(1<<31, ones<<32&ones), 4, one(1 << 31)},
		{"a bit in both", bitsOnly(7, 5), 1, num(2, 5, 2, 7, 2, 7)},
		{"a zero value", api.Num{}, 1, one(0)},
		{"bounds above each other", unsigned(5, 4), 1, all()},
		{"bounds above each other, the lower one beyond", unsigned(ones, 255), 1, all()},
		{"bounds above each other that both don't fit", unsigned(ones, 256), 1, num(0, 255, 0, 255, 0, 255)},
		{"a pattern that no number within has", num(8, 7, 0, 7, least, most), 1, all()},
		{"a pattern that only high bytes speak against", num(0x100, 7, 0, 7, least, most), 1, num(0, 7, 0, 7, 0, 7)},
		{"bounds with a sign above each other", signed(5, 4), 1, num(0, 255, 0, 255, 0, 255)},
		{"what the second round finds empty", num(0, ones-15, 1, 2, least, most), 4, all()},
		{"two rounds alone", num(1, ones-13, 2, 4, least, most), 4, num(3, 0, 2, 3, 2, 3)},
	} {
		if got := Cut(c.x, c.n); got != c.want {
			t.Errorf("%s: Cut(%#x, %d): %#x, not %#x", c.name, c.x, c.n, got, c.want)
		}
	}
}

func TestCutOfNoSize(t *testing.T) { // P7.5
	ofAll(func(x api.Num) {
		for _, n := range append(samples.NoSizes(), 8) {
			if got := Cut(x, n); got != x {
				t.Fatalf("Cut(%#x, %d): %#x", x, n, got)
			}
		}
	})
}

func TestCutToldTwice(t *testing.T) { // P7.5
	ofAll(func(x api.Num) {
		for _, n := range []int{1, 2, 4} {
			if got, want := Cut(x, n), cut(x, n); got != want {
				t.Fatalf("Cut(%#x, %d): %#x, not %#x", x, n, got, want)
			}
		}
	})
}

func TestCutKeepsNumbers(t *testing.T) { // P7.5, P7.6
	ofAll(func(x api.Num) {
		for _, size := range []int{1, 2, 4} {
			got, end := Cut(x, size), uint64(1)<<(8*size)
			for _, n := range samples.Near(x) {
				if Has(x, n) && !Has(got, n%end) {
					t.Fatalf("Cut(%#x, %d): %#x, that has not %#x", x, size, got, n%end)
				}
			}
		}
	})
}

func TestCutOfSmall(t *testing.T) { // P7.5, P7.6
	for _, base := range windows() {
		small(base, func(x api.Num) {
			got := Cut(x, 1)
			for i := range uint64(16) {
				if n := base + i; has(x, n) && !Has(got, n%256) {
					t.Fatalf("Cut(%#x, 1): %#x, that has not %#x", x, got, n%256)
				}
			}
		})
	}
}

func TestLow(t *testing.T) { // P7.5
	for _, c := range []struct {
		hi   uint64
		n    int
		want bool
	}{
		{0, 1, true}, {254, 1, true}, {255, 1, true}, {256, 1, false}, {ones, 1, false},
		{256, 2, true}, {0xFFFF, 2, true}, {1 << 16, 2, false}, {ones, 2, false},
		{1 << 16, 4, true}, {low, 4, true}, {1 << 32, 4, false}, {sign, 4, false},
		{1 << 32, 8, true}, {sign, 8, true}, {ones, 8, true}, {0, 8, true},
		{0xFFFF, 3, true}, {1<<24 - 1, 3, true}, {1 << 24, 3, false},
		{1<<40 - 1, 5, true}, {1 << 40, 5, false}, {1<<48 - 1, 6, true}, {1 << 48, 6, false}, {1<<56 - 1, 7, true}, {1 << 56, 7, false},
		{0, 0, true}, {1, 0, false}, {ones, 0, false},
		{0, -1, true}, {1, -1, false}, {0, -8, true}, {255, -8, false}, {0, math.MinInt, true}, {1, math.MinInt, false}, {1, math.MinInt + 1, false}, {1, -1<<61 + 1, false},
		{ones, 9, true}, {0, 9, true}, {ones, 64, true}, {ones, 1 << 60, true}, {ones, 1 << 61, true}, {ones, 1<<61 + 1, true}, {ones, math.MaxInt, true},
	} {
		// It asks of the upper bound without a sign alone.
		for _, x := range []api.Num{unsigned(0, c.hi), unsigned(ones, c.hi), num(ones, 0, 0, c.hi, least, most), num(0, 0, 0, c.hi, 0, 0), num(0, ones, c.hi, c.hi, 5, 4)} {
			if got := Low(x, c.n); got != c.want {
				t.Errorf("Low(%#x, %d): %v", x, c.n, got)
			}
		}
	}
}

func TestLowByPowers(t *testing.T) { // P7.5
	ofAll(func(x api.Num) {
		for n := range 12 {
			want := whole(x.UHi).Cmp(weight(8*n)) < 0
			if got := Low(x, n); got != want {
				t.Fatalf("Low(%#x, %d): %v", x, n, got)
			}
		}
	})
}

func TestWhatIsHandedInStays(t *testing.T) { // P7.2, P7.4, P7.5
	for _, x := range edges() {
		a, b := x, x
		Has(a, 5)
		IsConst(a)
		Refine(a)
		Meet(a, b)
		Cut(a, 2)
		Low(a, 2)
		if a != x || b != x {
			t.Errorf("%#x is %#x, %#x now", x, a, b)
		}
	}
}

func TestTheSameOnceMore(t *testing.T) { // P7.2, P7.4, P7.5
	ofPairs(func(a, b api.Num) {
		x, xOk := Meet(a, b)
		Refine(b)
		Cut(b, 1)
		y, yOk := Meet(a, b)
		if x != y || xOk != yOk {
			t.Fatalf("Meet(%#x, %#x): %#x, then %#x", a, b, x, y)
		}
	})
}
