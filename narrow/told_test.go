package narrow

import (
	"math/big"
	"slices"
	"testing"

	"halberd/alu"
	"halberd/api"
	"halberd/num"
	"halberd/samples"
	"halberd/small"
	"halberd/tnum"
)

// told is a second telling of what is known: its bits as '0', '1' and '?', the lowest one first, its bounds of both kinds, as numbers that don't go round and so may be beyond all numbers.
type told struct {
	bits   [64]byte
	lo, hi [2]*big.Int
	empty  bool
}

// The kinds of bounds.
const (
	noSign = 0
	aSign  = 1
)

func whole(x uint64) *big.Int { return new(big.Int).SetUint64(x) }

// allFrom and allTo tell the ends of all numbers.
func allFrom(kind int) *big.Int { return []*big.Int{whole(0), big.NewInt(least)}[kind] }

func allTo(kind int) *big.Int { return []*big.Int{whole(ones), big.NewInt(most)}[kind] }

func toldOf(x api.Num) told {
	k := told{lo: [2]*big.Int{whole(x.ULo), big.NewInt(x.SLo)}, hi: [2]*big.Int{whole(x.UHi), big.NewInt(x.SHi)}}
	for i := range k.bits {
		k.bits[i] = '0' + byte(x.Bits.Value>>i&1)
		if x.Bits.Mask>>i&1 == 1 {
			k.bits[i] = '?'
		}
	}
	return k
}

// num tells it refined; false of what is empty.
func (k told) num() (api.Num, bool) {
	for kind := range k.lo {
		if k.lo[kind].Cmp(allTo(kind)) > 0 || k.hi[kind].Cmp(allFrom(kind)) < 0 {
			return api.Num{}, false
		}
	}
	x := api.Num{ULo: k.lo[noSign].Uint64(), UHi: k.hi[noSign].Uint64(), SLo: k.lo[aSign].Int64(), SHi: k.hi[aSign].Int64()}
	for i, b := range k.bits {
		switch b {
		case '1':
			x.Bits.Value |= 1 << i
		case '?':
			x.Bits.Mask |= 1 << i
		}
	}
	x, ok := num.Refine(x)
	return x, ok && !k.empty
}

func (k told) from(kind int, n *big.Int) told {
	if k.lo[kind].Cmp(n) < 0 {
		k.lo[kind] = n
	}
	return k
}

func (k told) to(kind int, n *big.Int) told {
	if k.hi[kind].Cmp(n) > 0 {
		k.hi[kind] = n
	}
	return k
}

func (k told) bit(i int, b byte) told {
	if k.bits[i] == '?' {
		k.bits[i] = b
	}
	k.empty = k.empty || b != '?' && k.bits[i] != b
	return k
}

func more(n *big.Int, by int64) *big.Int { return new(big.Int).Add(n, big.NewInt(by)) }

// greaterTold is told of Jgt, if by is 1, of Jge, if it is 0, and of those with a sign.
func greaterTold(a, b told, kind int, by int64) (told, told) {
	return a.from(kind, more(b.lo[kind], by)), b.to(kind, more(a.hi[kind], -by))
}

func sameTold(a, b told) (told, told) {
	for kind := range a.lo {
		a = a.from(kind, b.lo[kind]).to(kind, b.hi[kind])
	}
	for i, c := range b.bits {
		a = a.bit(i, c)
	}
	x, ok := a.num()
	a = toldOf(x)
	a.empty = !ok
	return a, a
}

// withoutTold tells k without the only number of other, if other has only one.
func withoutTold(k told, other api.Num) told {
	c, only := num.IsConst(other)
	if !only {
		return k
	}
	k.empty = k.lo[noSign].Cmp(whole(c)) == 0 && k.hi[noSign].Cmp(whole(c)) == 0
	for kind, n := range []*big.Int{whole(c), big.NewInt(int64(c))} {
		if k.lo[kind].Cmp(n) == 0 && n.Cmp(allTo(kind)) != 0 {
			k.lo[kind] = more(n, 1)
		}
		if k.hi[kind].Cmp(n) == 0 && n.Cmp(allFrom(kind)) != 0 {
			k.hi[kind] = more(n, -1)
		}
	}
	return k
}

// setTold tells bits of k that are 1 in the only number of other: if it holds, the only such bit; if it doesn't, all.
func setTold(k told, other api.Num, holds bool) told {
	c, only := num.IsConst(other)
	var l []int
	for i := range k.bits {
		if only && c>>i&1 == 1 {
			l = append(l, i)
		}
	}
	switch {
	case !holds:
		for _, i := range l {
			k = k.bit(i, '0')
		}
	case len(l) == 1:
		k = k.bit(l[0], '1')
	}
	return k
}

func opposites() map[byte]byte {
	return map[byte]byte{
		api.Jeq: api.Jne, api.Jne: api.Jeq, api.Jgt: api.Jle, api.Jle: api.Jgt, api.Jge: api.Jlt, api.Jlt: api.Jge,
		api.Jsgt: api.Jsle, api.Jsle: api.Jsgt, api.Jsge: api.Jslt, api.Jslt: api.Jsge,
	}
}

// holdsTold is told of conditions that hold, and, of Jset, of one that doesn't, too.
func holdsTold(op byte, a, b api.Num, holds bool) (told, told) {
	x, y := toldOf(a), toldOf(b)
	switch op {
	case api.Jeq:
		return sameTold(x, y)
	case api.Jne:
		return withoutTold(x, b), withoutTold(y, a)
	case api.Jgt:
		return greaterTold(x, y, noSign, 1)
	case api.Jge:
		return greaterTold(x, y, noSign, 0)
	case api.Jsgt:
		return greaterTold(x, y, aSign, 1)
	case api.Jsge:
		return greaterTold(x, y, aSign, 0)
	case api.Jlt:
		y, x = greaterTold(y, x, noSign, 1)
	case api.Jle:
		y, x = greaterTold(y, x, noSign, 0)
	case api.Jslt:
		y, x = greaterTold(y, x, aSign, 1)
	case api.Jsle:
		y, x = greaterTold(y, x, aSign, 0)
	case api.Jset:
		return setTold(x, b, holds), y
	}
	return x, y
}

func wayTold(op byte, wide bool, a, b api.Num, holds bool) (api.Num, api.Num, bool) {
	limit := whole(1 << 32)
	if !wide && (slices.Contains(withSign(), op) || whole(a.UHi).Cmp(limit) >= 0 || whole(b.UHi).Cmp(limit) >= 0) {
		return a, b, true
	}
	if opposite, ok := opposites()[op]; ok && !holds {
		op = opposite
	}
	first, second := holdsTold(op, a, b, holds)
	x, xHas := first.num()
	y, yHas := second.num()
	if !xHas || !yHas {
		return a, b, false
	}
	return x, y, true
}

// edges may be empty, may have bits in both Value and Mask, and may not be refined.
func edges() []api.Num {
	l := []api.Num{
		all(), num.Bounds(0, 1), num.Bounds(0, 3), num.Bounds(4, 7), num.Bounds(3, 4), num.Bounds(5, 9), num.Bounds(0, 63), num.Bounds(0, low), num.Bounds(low-4, low), num.Bounds(low-4, low+5), num.Bounds(0, most), num.Bounds(sign, ones), num.Bounds(sign-1, sign), num.Bounds(1, ones), num.Bounds(0, ones-1), num.Bounds(ones-1, ones),
		num.Signed(-3, -1), num.Signed(-5, 3), num.Signed(-1, 0), num.Signed(least, -1), num.Signed(least, 0), num.Signed(least, least+1), num.Signed(most-1, most), num.Signed(least+1, most), num.Signed(least, most-1),
		within(0, 0), within(3, 3), within(0, 7), within(4, 9), within(0, low), within(5, low+1), within(sign-1, sign), within(5, ones-9), within(ones, ones), within(ones-1, ones), signed(0, 0), signed(-1, -1), signed(4, 9), signed(-9, 9), signed(-5, -4), signed(least, least), signed(most, most), signed(most-1, most),
		odd(), bitsOnly(0, ones-1), bitsOnly(4, 3), bitsOnly(8, 7), bitsOnly(sign, most), bitsOnly(0, most), bitsOnly(0, sign), bitsOnly(1, ones-13), bitsOnly(5, 0), bitsOnly(0, 0), bitsOnly(ones, 0), known(1, 4, 2, 4, 2, 4), known(0, ones-1, 3, low, -9, 9),
		known(0, ones, 3, ones, least, 3), known(0, ones, 0, sign+5, least+5, most), known(0, ones, 0, 4, 4, most), known(5, 0, 4, 5, 4, 5), known(4, 0, 0, low, -4, 4),
		bitsOnly(7, 5), bitsOnly(ones, ones), bitsOnly(sign+1, sign+1), known(5, 1, 4, 5, 4, 5), {},
	}
	for _, c := range []uint64{0, 1, 2, 3, 4, 5, 6, 7, 8, 9, low, low + 1, sign - 2, sign - 1, sign, sign + 1, ones - 4, ones - 1, ones} {
		l = append(l, one(c))
	}
	return append(l, empties()...)
}

// ofDrawn asks pairs, each with a number that it was drawn about; some have one number only, at or beside an end of the other one, some fit into four bytes.
func ofDrawn(f func(a, b api.Num, x, y uint64)) {
	seed := uint64(9)
	for i := range 5000 {
		a, x := samples.Known(&seed)
		b, y := samples.Known(&seed)
		if i%3 > 0 {
			l := samples.Near(a)
			y = l[samples.Below(&seed, len(l))]
			b = one(y)
		}
		if i%3 > 1 {
			b = within(samples.Around(y, &seed))
		}
		if i%8 < 4 {
			a, b, x, y = b, a, y, x
		}
		if i%5 < 2 {
			a, b, x, y = num.Cut(a, 4), num.Cut(b, 4), x&low, y&low
		}
		f(a, b, x, y)
	}
}

func ofPairs(f func(a, b api.Num)) {
	for _, a := range edges() {
		for _, b := range edges() {
			f(a, b)
		}
	}
	ofDrawn(func(a, b api.Num, _, _ uint64) { f(a, b) })
}

func ofWays(f func(op byte, wide, holds bool)) {
	for _, op := range conditionNumbers() {
		for _, wide := range []bool{true, false} {
			f(op, wide, true)
			f(op, wide, false)
		}
	}
}

func TestWayToldTwice(t *testing.T) { // P9.1
	ofPairs(func(a, b api.Num) {
		ofWays(func(op byte, wide, holds bool) {
			x, y, want := wayTold(op, wide, a, b, holds)
			if first, second, ok := Way(op, wide, a, b, holds); first != x || second != y || ok != want {
				t.Fatalf("Way(%#x, %v, %#x, %#x, %v): %#x, %#x, %v, not %#x, %#x, %v", op, wide, a, b, holds, first, second, ok, x, y, want)
			}
		})
	})
}

func TestOppositesAndTurnedOnes(t *testing.T) { // P9.1
	turned := map[byte]byte{
		api.Jeq: api.Jeq, api.Jne: api.Jne, api.Jgt: api.Jlt, api.Jlt: api.Jgt, api.Jge: api.Jle, api.Jle: api.Jge,
		api.Jsgt: api.Jslt, api.Jslt: api.Jsgt, api.Jsge: api.Jsle, api.Jsle: api.Jsge,
	}
	ofPairs(func(a, b api.Num) {
		for op, opposite := range opposites() {
			for _, wide := range []bool{true, false} {
				x, y, ok := Way(op, wide, a, b, true)
				if first, second, can := Way(opposite, wide, a, b, false); first != x || second != y || can != ok {
					t.Fatalf("Way(%#x, %v, %#x, %#x): %#x, %#x, %v, but %#x tells %#x, %#x, %v where it doesn't hold", op, wide, a, b, x, y, ok, opposite, first, second, can)
				}
				if second, first, can := Way(turned[op], wide, b, a, true); first != x || second != y || can != ok {
					t.Fatalf("Way(%#x, %v, %#x, %#x): %#x, %#x, %v, but %#x tells %#x, %#x, %v of b and a", op, wide, a, b, x, y, ok, turned[op], second, first, can)
				}
			}
		}
	})
}

func TestOf32BitsIsAsOf64(t *testing.T) { // P9.1
	ofPairs(func(a, b api.Num) {
		for _, op := range withoutSign() {
			for _, holds := range []bool{true, false} {
				x, y, ok := Way(op, true, a, b, holds)
				if a.UHi > low || b.UHi > low {
					x, y, ok = a, b, true
				}
				if first, second, can := Way(op, false, a, b, holds); first != x || second != y || can != ok {
					t.Fatalf("Way(%#x, false, %#x, %#x, %v): %#x, %#x, %v, not %#x, %#x, %v", op, a, b, holds, first, second, can, x, y, ok)
				}
			}
		}
	})
}

func TestNoBitsInBoth(t *testing.T) { // P9.1
	ofPairs(func(a, b api.Num) {
		for _, op := range conditionNumbers() {
			for _, holds := range []bool{true, false} {
				if x, y, ok := Way(op, true, a, b, holds); ok && (!tnum.May(x.Bits) || !tnum.May(y.Bits)) {
					t.Fatalf("Way(%#x, true, %#x, %#x, %v) tells bits in both: %#x, %#x", op, a, b, holds, x, y)
				}
			}
		}
	})
}

func TestNumbersAreHadBehindIt(t *testing.T) { // P9.2
	asked, never := 0, 0
	ofDrawn(func(a, b api.Num, n, k uint64) {
		l, m := small.Some(a, n), small.Some(b, k)
		ofWays(func(op byte, wide, holds bool) {
			x, y, ok := Way(op, wide, a, b, holds)
			if !ok {
				never++
			}
			for _, n := range l {
				for _, k := range m {
					if is, _ := alu.Holds(op, wide, n, k); is != holds {
						continue
					}
					asked++
					if !ok || !num.Has(x, n) || !num.Has(y, k) {
						t.Fatalf("Way(%#x, %v, %#x, %#x, %v): %#x, %#x, %v, that have not %#x and %#x", op, wide, a, b, holds, x, y, ok, n, k)
					}
				}
			}
		})
	})
	if asked < 1000000 || never < 10000 {
		t.Errorf("only %d pairs of numbers were asked, only %d ways can't be gone", asked, never)
	}
}

func TestSmallNumbersAreHadBehindIt(t *testing.T) { // P9.1, P9.2
	few := [][2]int{{0, 7}, {3, 5}}
	many := [][2]int{{0, 3}, {0, 4}, {0, 7}, {3, 3}, {3, 4}, {3, 7}, {4, 4}, {4, 7}}
	for _, first := range small.Windows() {
		for _, second := range small.Windows() {
			ends := few
			if first == second {
				ends = many
			}
			l := append(small.In(first, ends...), small.Ones(first)...)
			m := append(small.In(second, ends...), small.Ones(second)...)
			ofWays(func(op byte, wide, holds bool) {
				pairs := pairsOf(op, wide, holds, first, second)
				for _, a := range l {
					for _, b := range m {
						checkSmall(t, op, wide, holds, a, b, [2]uint64{first, second}, pairs)
					}
				}
			})
		}
	}
}

// pairsOf tells of which numbers of two windows a condition holds, or doesn't.
func pairsOf(op byte, wide, holds bool, first, second uint64) [small.Size][small.Size]bool {
	var l [small.Size][small.Size]bool
	for i := range l {
		for j := range l[i] {
			is, _ := alu.Holds(op, wide, first+uint64(i), second+uint64(j))
			l[i][j] = is == holds
		}
	}
	return l
}

func checkSmall(t *testing.T, op byte, wide, holds bool, a, b small.Known, windows [2]uint64, pairs [small.Size][small.Size]bool) {
	t.Helper()
	x, y, ok := Way(op, wide, a.Num, b.Num, holds)
	for _, i := range a.Had {
		for _, j := range b.Had {
			n, k := windows[0]+uint64(i), windows[1]+uint64(j)
			if pairs[i][j] && (!ok || !num.Has(x, n) || !num.Has(y, k)) {
				t.Fatalf("Way(%#x, %v, %#x, %#x, %v): %#x, %#x, %v, that have not %#x and %#x", op, wide, a.Num, b.Num, holds, x, y, ok, n, k)
			}
		}
	}
}

func TestWhatIsHandedInStays(t *testing.T) { // P9.1
	ofDrawn(func(a, b api.Num, _, _ uint64) {
		x, y := a, b
		ofWays(func(op byte, wide, holds bool) {
			first, second, ok := Way(op, wide, a, b, holds)
			third, fourth, once := Way(op, wide, a, b, holds)
			if a != x || b != y || first != third || second != fourth || ok != once {
				t.Fatalf("Way(%#x, %v, %#x, %#x, %v): %#x, %#x, %v, then %#x, %#x, %v of %#x, %#x", op, wide, x, y, holds, first, second, ok, third, fourth, once, a, b)
			}
		})
	})
}
