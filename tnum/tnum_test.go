package tnum

import (
	"math"
	"slices"
	"testing"

	"halberd/api"
	"halberd/samples"
)

const (
	ones = math.MaxUint64
	sign = 1 << 63
	low  = 1<<32 - 1
	odd  = 0x5555555555555555
	even = 0xAAAAAAAAAAAAAAAA
)

func pat(value, mask uint64) api.Tnum { return api.Tnum{Value: value, Mask: mask} }

// two is an operation of two patterns, and of two numbers.
type two struct {
	name string
	of   func(a, b api.Tnum) api.Tnum
	do   func(x, y uint64) uint64
	told func(a, b trits) trits
}

func twos() []two {
	return []two{
		{"Add", Add, func(x, y uint64) uint64 { return x + y }, added},
		{"Sub", Sub, func(x, y uint64) uint64 { return x - y }, subtracted},
		{"And", And, func(x, y uint64) uint64 { return x & y }, eachBit(func(x, y int) int { return x * y })},
		{"Or", Or, func(x, y uint64) uint64 { return x | y }, eachBit(func(x, y int) int { return max(x, y) })},
		{"Xor", Xor, func(x, y uint64) uint64 { return x ^ y }, eachBit(func(x, y int) int { return (x + y) % 2 })},
	}
}

// shift is one of patterns, and of numbers, by less than 64.
type shift struct {
	name string
	of   func(t api.Tnum, n uint64) api.Tnum
	do   func(x, n uint64) uint64
	told func(t trits, n int) trits
}

func shifts() []shift {
	return []shift{
		{"Lsh", Lsh, func(x, n uint64) uint64 { return x << n }, func(t trits, n int) trits { return t.moved(-n, only(0)) }},
		{"Rsh", Rsh, func(x, n uint64) uint64 { return x >> n }, func(t trits, n int) trits { return t.moved(n, only(0)) }},
		{"Arsh", Arsh, func(x, n uint64) uint64 { return uint64(int64(x) >> n) }, func(t trits, n int) trits { return t.moved(n, t[63]) }},
	}
}

// may is what a bit, or a carry, can be: may[0] if 0, may[1] if 1.
type may [2]bool

func only(x int) may {
	var m may
	m[x] = true
	return m
}

// trits is a second telling of a pattern: what each of its bits can be, the lowest one first.
type trits [64]may

func tritsOf(t api.Tnum) trits {
	var l trits
	for i := range l {
		l[i] = only(int(t.Value >> i & 1))
		if t.Mask>>i&1 == 1 {
			l[i] = may{true, true}
		}
	}
	return l
}

func (l trits) pattern() api.Tnum {
	var t api.Tnum
	for i, m := range l {
		if m[0] && m[1] {
			t.Mask |= 1 << i
		} else if m[1] {
			t.Value |= 1 << i
		}
	}
	return t
}

func (l trits) moved(by int, coming may) trits {
	var out trits
	for i := range out {
		out[i] = coming
		if from := i + by; from >= 0 && from < 64 {
			out[i] = l[from]
		}
	}
	return out
}

func (m may) each(f func(x int)) {
	for x := range m {
		if m[x] {
			f(x)
		}
	}
}

func eachBit(f func(x, y int) int) func(a, b trits) trits {
	return func(a, b trits) trits {
		var out trits
		for i := range out {
			a[i].each(func(x int) {
				b[i].each(func(y int) { out[i][f(x, y)] = true })
			})
		}
		return out
	}
}

// carried goes from the lowest bit on, with what may come from below; lower bits say nothing of higher ones beside that.
func carried(a, b trits, f func(x, y, from int) int) trits {
	var out trits
	from := only(0)
	for i := range out {
		var to may
		a[i].each(func(x int) {
			b[i].each(func(y int) {
				from.each(func(c int) {
					sum := f(x, y, c)
					out[i][sum&1] = true
					to[sum>>1&1] = true
				})
			})
		})
		from = to
	}
	return out
}

func added(a, b trits) trits {
	return carried(a, b, func(x, y, c int) int { return x + y + c })
}

func subtracted(a, b trits) trits {
	return carried(a, b, func(x, y, c int) int { return x - y - c })
}

// drawn patterns have few unknown bits, or about half, or long runs, or nearly all; a bit may be in both Value and Mask.
func drawn(seed *uint64) api.Tnum {
	t := pat(samples.Draw(seed), samples.Draw(seed))
	switch samples.Draw(seed) % 5 {
	case 0:
		t.Mask &= samples.Draw(seed) & samples.Draw(seed)
	case 1:
		t.Mask |= samples.Draw(seed) | samples.Draw(seed)
	case 2:
		t.Mask = ones >> (samples.Draw(seed) % 64) << (samples.Draw(seed) % 64)
	case 3:
		t.Value = ones >> (samples.Draw(seed) % 64) << (samples.Draw(seed) % 64)
		t.Mask = 1 << (samples.Draw(seed) % 64)
	}
	if samples.Draw(seed)%3 > 0 {
		t.Value &^= t.Mask
	}
	return t
}

// numberOf draws a number that a pattern has.
func numberOf(t api.Tnum, seed *uint64) uint64 {
	x := samples.Draw(seed)
	switch samples.Draw(seed) % 4 {
	case 0:
		x = 0
	case 1:
		x = ones
	}
	return t.Value&^t.Mask | x&t.Mask
}

// numbersOf goes through all numbers that a pattern has: all pieces of its Mask.
func numbersOf(t api.Tnum) []uint64 {
	var l []uint64
	for piece := uint64(0); ; {
		l = append(l, t.Value&^t.Mask|piece)
		piece = (piece - t.Mask) & t.Mask
		if piece == 0 {
			return l
		}
	}
}

// inCommon is the pattern in which a bit is known just if it is the same in all numbers of a list.
func inCommon(l []uint64) api.Tnum {
	all, any := uint64(ones), uint64(0)
	for _, x := range l {
		all &= x
		any |= x
	}
	return pat(all, all^any)
}

// proper ones: of no unknown bit, of some, of all; the highest bit known as 0, known as 1 and not known.
func properEdges() []api.Tnum {
	l := []api.Tnum{
		pat(0, 0), pat(1, 0), pat(ones, 0), pat(sign, 0), pat(sign-1, 0), pat(ones-1, 0), pat(odd, 0), pat(even, 0), pat(0x0123456789ABCDEF, 0),
		pat(0, ones), pat(0, ones-1), pat(1, ones-1), pat(0, sign), pat(1, sign), pat(sign-1, sign), pat(0, sign-1), pat(sign, sign-1),
		pat(0, 1), pat(2, 1), pat(ones-1, 1), pat(sign-2, 1), pat(sign, 1), pat(0, 3), pat(4, 3), pat(0, sign+1), pat(2, sign+1), pat(sign-2, sign+1),
		pat(0, odd), pat(even, odd), pat(0, even), pat(odd, even), pat(0, low), pat(ones-low, low), pat(0, ones-low), pat(low, ones-low),
		pat(0xF0, 0x0F), pat(0x80FF7F0100FF7F01, 0x0F000080FF000080),
	}
	for _, n := range []int{7, 8, 15, 16, 31, 32, 33, 47, 62, 63} {
		p := uint64(1) << n
		l = append(l, pat(p, 0), pat(p-1, 0), pat(-p, 0), pat(0, p), pat(^p, p), pat(0, p-1), pat(-p, p-1))
	}
	return l
}

// improper ones have bits in both Value and Mask.
func improperEdges() []api.Tnum {
	return []api.Tnum{
		pat(1, 1), pat(ones, ones), pat(sign, sign), pat(ones, sign), pat(ones, 1), pat(ones, odd), pat(odd, ones), pat(sign, ones), pat(1, ones),
		pat(ones, low), pat(ones, ones-low), pat(sign+1, sign+1), pat(7, 5), pat(0xFF, 0x80), pat(0x80, 0xFF), pat(sign+0x40, sign), pat(1<<62, ones),
	}
}

func edges() []api.Tnum { return append(properEdges(), improperEdges()...) }

// ofPairs asks all pairs of edges, and drawn ones.
func ofPairs(f func(a, b api.Tnum)) {
	for _, a := range edges() {
		for _, b := range edges() {
			f(a, b)
		}
	}
	seed := uint64(6)
	for range 8000 {
		f(drawn(&seed), drawn(&seed))
	}
}

func ofAll(f func(t api.Tnum)) {
	for _, t := range edges() {
		f(t)
	}
	seed := uint64(60)
	for range 4000 {
		f(drawn(&seed))
	}
}

// spread lays the low bits of x to places.
func spread(x uint64, places []int) uint64 {
	var out uint64
	for i, p := range places {
		out |= x >> i & 1 << p
	}
	return out
}

// small tells all patterns that may be of the bits at some places; the other bits are known, as in rest.
func small(places []int, rest uint64) []api.Tnum {
	var l []api.Tnum
	n := uint64(1) << len(places)
	for value := range n {
		for mask := range n {
			if value&mask == 0 {
				l = append(l, pat(spread(value, places)|rest&^spread(n-1, places), spread(mask, places)))
			}
		}
	}
	return l
}

func TestMay(t *testing.T) { // P6.1
	for _, p := range properEdges() {
		if !May(p) {
			t.Errorf("May(%#x): no", p)
		}
	}
	for _, p := range improperEdges() {
		if May(p) {
			t.Errorf("May(%#x): yes", p)
		}
	}
	for i := range 64 {
		bit := uint64(1) << i
		for _, rest := range []uint64{0, odd, even, ones} {
			if p := pat(rest|bit, ^rest|bit); May(p) {
				t.Errorf("May(%#x): yes", p)
			}
			if p := pat(rest&^bit, ^rest&^bit); !May(p) {
				t.Errorf("May(%#x): no", p)
			}
		}
	}
}

func TestHasByHand(t *testing.T) { // P6.1
	for _, c := range []struct {
		p    api.Tnum
		x    uint64
		want bool
	}{
		{pat(5, 0), 5, true},
		{pat(5, 0), 4, false},
		{pat(5, 0), sign + 5, false},
		{pat(0, 0), 0, true},
		{pat(0, 0), ones, false},
		{pat(ones, 0), ones, true},
		{pat(0, ones), 0, true},
		{pat(0, ones), ones, true},
		{pat(4, 3), 3, false},
		{pat(4, 3), 4, true},
		{pat(4, 3), 7, true},
		{pat(4, 3), 8, false},
		{pat(4, 3), 12, false},
		{pat(0, sign), sign, true},
		{pat(0, sign), 0, true},
		{pat(0, sign), sign + 1, false},
		{pat(sign, 1), 1, false},
		{pat(sign, 1), sign, true},
		{pat(1, 1), 0, true},
		{pat(1, 1), 1, true},
		{pat(1, 1), 2, false},
		{pat(3, 1), 2, true},
		{pat(3, 1), 1, false},
		{pat(ones, ones), 0, true},
		{pat(ones, sign), sign - 1, true},
	} {
		if got := Has(c.p, c.x); got != c.want {
			t.Errorf("Has(%#x, %#x): %v", c.p, c.x, got)
		}
	}
}

func TestHasOfEachBit(t *testing.T) { // P6.1
	seed := uint64(1)
	ofAll(func(p api.Tnum) {
		x := numberOf(p, &seed)
		if !Has(p, x) {
			t.Fatalf("Has(%#x, %#x): no", p, x)
		}
		for i := range 64 {
			y := x ^ 1<<i
			if got, want := Has(p, y), p.Mask>>i&1 == 1; got != want {
				t.Fatalf("Has(%#x, %#x): %v", p, y, got)
			}
		}
	})
}

func TestHasOfSmall(t *testing.T) { // P6.1
	for _, p := range small([]int{0, 1, 2, 3}, 0) {
		l := numbersOf(p)
		for x := range uint64(32) {
			if got, want := Has(p, x), slices.Contains(l, x); got != want {
				t.Errorf("Has(%#x, %#x): %v", p, x, got)
			}
		}
	}
}

func TestConst(t *testing.T) { // P6.1
	for _, x := range []uint64{0, 1, 5, 255, low, 1 << 32, sign - 1, sign, odd, even, ones - 1, ones} {
		if got := Const(x); got != pat(x, 0) {
			t.Errorf("Const(%#x): %#x", x, got)
		}
		if !Has(Const(x), x) || Has(Const(x), x+1) || Has(Const(x), x^sign) {
			t.Errorf("Const(%#x) has not just that number", x)
		}
	}
}

func TestAll(t *testing.T) { // P6.1
	if got := All(); got != pat(0, ones) {
		t.Errorf("All(): %#x", got)
	}
	for _, x := range []uint64{0, 1, sign, odd, even, ones} {
		if !Has(All(), x) {
			t.Errorf("All() has not %#x", x)
		}
	}
}

func TestRangeByHand(t *testing.T) { // P6.1
	for _, c := range []struct {
		lo, hi uint64
		want   api.Tnum
	}{
		{4, 7, pat(4, 3)},
		{0, 0, pat(0, 0)},
		{5, 5, pat(5, 0)},
		{sign, sign, pat(sign, 0)},
		{ones, ones, pat(ones, 0)},
		{0, 1, pat(0, 1)},
		{1, 2, pat(0, 3)},
		{2, 3, pat(2, 1)},
		{3, 4, pat(0, 7)},
		{4, 5, pat(4, 1)},
		{5, 7, pat(4, 3)},
		{4, 8, pat(0, 15)},
		{8, 10, pat(8, 3)},
		{0x1234, 0x1237, pat(0x1234, 3)},
		{low, 1 << 32, pat(0, 1<<33-1)},
		{1 << 32, 1<<32 + low, pat(1<<32, low)},
		{sign - 1, sign, pat(0, ones)},
		{sign, sign + 1, pat(sign, 1)},
		{sign, ones, pat(sign, sign-1)},
		{0, sign - 1, pat(0, sign-1)},
		{0, sign, pat(0, ones)},
		{ones - 1, ones, pat(ones-1, 1)},
		{ones - 2, ones, pat(ones-3, 3)},
		{0, ones, pat(0, ones)},
		{1, ones, pat(0, ones)},
		{0, ones - 1, pat(0, ones)},
		{1, 0, pat(0, ones)},
		{7, 4, pat(0, ones)},
		{5, 4, pat(0, ones)},
		{ones, 0, pat(0, ones)},
		{ones, ones - 1, pat(0, ones)},
		{sign, sign - 1, pat(0, ones)},
		{sign, 1, pat(0, ones)},
	} {
		if got := Range(c.lo, c.hi); got != c.want {
			t.Errorf("Range(%#x, %#x): %#x, not %#x", c.lo, c.hi, got, c.want)
		}
	}
}

// ranged goes down from the highest bit, as the chapter tells.
func ranged(lo, hi uint64) api.Tnum {
	if hi < lo {
		return pat(0, ones)
	}
	t := pat(0, ones)
	for bit := uint64(sign); bit > 0 && lo&bit == hi&bit; bit >>= 1 {
		t.Value |= lo & bit
		t.Mask &^= bit
	}
	return t
}

func TestRangeOfDrawn(t *testing.T) { // P6.1
	seed := uint64(2)
	for range 20000 {
		lo := samples.Draw(&seed) >> (samples.Draw(&seed) % 64)
		hi := lo + samples.Draw(&seed)>>(samples.Draw(&seed)%64)
		if samples.Draw(&seed)%4 == 0 {
			hi = lo ^ 1<<(samples.Draw(&seed)%64)
		}
		for _, c := range [][2]uint64{{lo, hi}, {hi, lo}, {lo, lo}, {^lo, ^hi}} {
			if got, want := Range(c[0], c[1]), ranged(c[0], c[1]); got != want {
				t.Fatalf("Range(%#x, %#x): %#x, not %#x", c[0], c[1], got, want)
			}
		}
	}
}

func TestRangeOfSmall(t *testing.T) { // P6.1, P6.5
	for _, base := range []uint64{0, low - 40, sign - 40, ones - 80} {
		for i := range uint64(80) {
			for j := i; j <= 80; j++ {
				lo, hi := base+i, base+j
				got := Range(lo, hi)
				if want := ranged(lo, hi); got != want {
					t.Fatalf("Range(%#x, %#x): %#x, not %#x", lo, hi, got, want)
				}
				for k := i; k <= j; k++ {
					if !Has(got, base+k) {
						t.Fatalf("Range(%#x, %#x): %#x, that has not %#x", lo, hi, got, base+k)
					}
				}
			}
		}
	}
}

func TestTwoTogetherByHand(t *testing.T) { // P6.2
	for _, c := range []struct {
		name string
		of   func(a, b api.Tnum) api.Tnum
		a, b api.Tnum
		want api.Tnum
	}{
		{"0 or 1, and 1", Add, pat(0, 1), pat(1, 0), pat(0, 3)},
		{"numbers", Add, pat(3, 0), pat(4, 0), pat(7, 0)},
		{"numbers go round", Add, pat(ones, 0), pat(1, 0), pat(0, 0)},
		{"all and 0", Add, pat(0, ones), pat(0, 0), pat(0, ones)},
		{"all and all", Add, pat(0, ones), pat(0, ones), pat(0, ones)},
		{"a carry through all bits", Add, pat(ones, 0), pat(0, 1), pat(0, ones)},
		{"a carry through all other bits", Add, pat(ones-1, 1), pat(1, 0), pat(0, ones)},
		{"a carry that surely goes out", Add, pat(ones, 0), pat(1, sign), pat(0, sign)},
		{"a carry that stops at a known 0", Add, pat(6, 1), pat(1, 0), pat(0, 15)},
		{"no carry between unknown bits", Add, pat(0, odd), pat(0, even), pat(0, ones)},
		{"bits that stand apart", Add, pat(0, 0x0F), pat(0xF0, 0), pat(0xF0, 0x0F)},
		{"a sum that is even", Add, pat(0, 6), pat(0, 2), pat(0, 14)},
		{"two highest bits", Add, pat(sign, 0), pat(0, sign), pat(0, sign)},
		{"the highest bit goes out", Add, pat(sign, 0), pat(sign, sign-1), pat(0, sign-1)},
		{"numbers", Sub, pat(7, 0), pat(4, 0), pat(3, 0)},
		{"numbers go round", Sub, pat(0, 0), pat(1, 0), pat(ones, 0)},
		{"a borrow through all bits", Sub, pat(0, 0), pat(0, 1), pat(0, ones)},
		{"a borrow of 0 or 1", Sub, pat(0, 1), pat(1, 0), pat(0, ones)},
		{"a borrow that stops at a known 1", Sub, pat(8, 0), pat(0, 1), pat(0, 15)},
		{"a borrow that surely goes", Sub, pat(0, 2), pat(1, 0), pat(1, ones-1)},
		{"the same pattern", Sub, pat(0, 2), pat(0, 2), pat(0, ones-1)},
		{"all less all", Sub, pat(0, ones), pat(0, ones), pat(0, ones)},
		{"bits that stand apart", Sub, pat(0xF0, 0x0F), pat(0x70, 0), pat(0x80, 0x0F)},
		{"two highest bits", Sub, pat(sign, 0), pat(0, sign), pat(0, sign)},
		{"nothing is borrowed", Sub, pat(ones, 0), pat(0, odd), pat(even, odd)},
		{"numbers", And, pat(12, 0), pat(10, 0), pat(8, 0)},
		{"all and 0", And, pat(0, ones), pat(0, 0), pat(0, 0)},
		{"all and -1", And, pat(0, ones), pat(ones, 0), pat(0, ones)},
		{"all and 7", And, pat(0, ones), pat(7, 0), pat(0, 7)},
		{"unknown and 0, 1, unknown", And, pat(0, 7), pat(2, 4), pat(0, 6)},
		{"1 and 0, 1, unknown", And, pat(7, 0), pat(2, 4), pat(2, 4)},
		{"numbers", Or, pat(12, 0), pat(10, 0), pat(14, 0)},
		{"all and 0", Or, pat(0, ones), pat(0, 0), pat(0, ones)},
		{"all and -1", Or, pat(0, ones), pat(ones, 0), pat(ones, 0)},
		{"all and the highest bit", Or, pat(0, ones), pat(sign, 0), pat(sign, sign-1)},
		{"unknown and 0, 1, unknown", Or, pat(0, 7), pat(2, 4), pat(2, 5)},
		{"0 and 0, 1, unknown", Or, pat(0, 0), pat(2, 4), pat(2, 4)},
		{"numbers", Xor, pat(12, 0), pat(10, 0), pat(6, 0)},
		{"the same number", Xor, pat(ones, 0), pat(ones, 0), pat(0, 0)},
		{"the same pattern", Xor, pat(6, 1), pat(6, 1), pat(0, 1)},
		{"all and -1", Xor, pat(0, ones), pat(ones, 0), pat(0, ones)},
		{"unknown and 0, 1, unknown", Xor, pat(8, 7), pat(2, 4), pat(8, 7)},
		{"1 and 0, 1, unknown", Xor, pat(7, 0), pat(2, 4), pat(1, 4)},
		{"what may not be", Add, pat(1, 1), pat(1, 0), pat(0, 3)},
		{"what may not be", Sub, pat(8, 0), pat(1, 1), pat(0, 15)},
		{"what may not be", And, pat(7, 1), pat(7, 0), pat(6, 1)},
		{"what may not be", Or, pat(0, 0), pat(7, 2), pat(5, 2)},
		{"what may not be", Xor, pat(7, 2), pat(ones, ones), pat(0, ones)},
	} {
		if got := c.of(c.a, c.b); got != c.want {
			t.Errorf("%s: of %#x and %#x: %#x, not %#x", c.name, c.a, c.b, got, c.want)
		}
	}
}

func TestSmallPatternsTogether(t *testing.T) { // P6.2, P6.5
	for _, places := range [][]int{{0, 1, 2, 3}, {60, 61, 62, 63}, {30, 31, 32, 33}, {0, 1, 31, 63}, {0, 2, 62, 63}} {
		for _, rests := range [][2]uint64{{0, 0}, {ones, 0}, {0, ones}, {ones, ones}, {odd, even}, {sign, sign - 1}} {
			as, bs := small(places, rests[0]), small(places, rests[1])
			for _, o := range twos() {
				checkTogether(t, o, as, bs)
			}
		}
	}
}

// checkTogether holds what two patterns tell against the results of all numbers that they have.
func checkTogether(t *testing.T, o two, as, bs []api.Tnum) {
	t.Helper()
	for _, a := range as {
		xs := numbersOf(a)
		for _, b := range bs {
			var results []uint64
			for _, y := range numbersOf(b) {
				for _, x := range xs {
					results = append(results, o.do(x, y))
				}
			}
			if got, want := o.of(a, b), inCommon(results); got != want {
				t.Fatalf("%s(%#x, %#x): %#x, not %#x", o.name, a, b, got, want)
			}
		}
	}
}

func TestPatternsTogetherBitByBit(t *testing.T) { // P6.2
	for _, o := range twos() {
		ofPairs(func(a, b api.Tnum) {
			want := o.told(tritsOf(a), tritsOf(b)).pattern()
			if got := o.of(a, b); got != want {
				t.Fatalf("%s(%#x, %#x): %#x, not %#x", o.name, a, b, got, want)
			}
		})
	}
}

func TestCarriesGoThroughEachBit(t *testing.T) { // P6.2
	for from := range 64 {
		for to := from; to < 64; to++ {
			bit := uint64(1) << from
			// The bits from the one to the other, with both ends.
			run := uint64(ones) >> (63 - to) &^ (bit - 1)
			if got, want := Add(pat(run, 0), pat(0, bit)), pat(0, run|run<<1); got != want {
				t.Errorf("Add of %#x and 0 or %#x: %#x, not %#x", run, bit, got, want)
			}
			if got, want := Sub(pat(run+bit, 0), pat(0, bit)), pat(0, run|run<<1); to < 63 && got != want {
				t.Errorf("Sub of %#x and 0 or %#x: %#x, not %#x", run+bit, bit, got, want)
			}
		}
		bit := uint64(1) << from
		if got, want := Sub(pat(0, 0), pat(0, bit)), pat(0, -bit); got != want {
			t.Errorf("Sub of 0 and 0 or %#x: %#x, not %#x", bit, got, want)
		}
	}
}

func TestShiftsByHand(t *testing.T) { // P6.3
	for _, c := range []struct {
		name string
		of   func(t api.Tnum, n uint64) api.Tnum
		p    api.Tnum
		n    uint64
		want api.Tnum
	}{
		{"lsh by 0", Lsh, pat(5, 2), 0, pat(5, 2)},
		{"lsh by 1", Lsh, pat(5, 2), 1, pat(10, 4)},
		{"lsh by 63", Lsh, pat(5, 2), 63, pat(sign, 0)},
		{"lsh by 63 of an unknown bit", Lsh, pat(4, 3), 63, pat(0, sign)},
		{"lsh by 64", Lsh, pat(5, 2), 64, pat(5, 2)},
		{"lsh by 65", Lsh, pat(5, 2), 65, pat(10, 4)},
		{"lsh by -1", Lsh, pat(1, 2), ones, pat(sign, 0)},
		{"lsh of all", Lsh, pat(0, ones), 1, pat(0, ones-1)},
		{"lsh of -1", Lsh, pat(ones, 0), 4, pat(ones-15, 0)},
		{"lsh goes out", Lsh, pat(sign, sign-1), 1, pat(0, ones-1)},
		{"rsh by 0", Rsh, pat(5, 2), 0, pat(5, 2)},
		{"rsh by 1", Rsh, pat(5, 2), 1, pat(2, 1)},
		{"rsh by 63", Rsh, pat(sign, 1), 63, pat(1, 0)},
		{"rsh by 63 of an unknown bit", Rsh, pat(1, sign), 63, pat(0, 1)},
		{"rsh by 64", Rsh, pat(5, sign), 64, pat(5, sign)},
		{"rsh by 65", Rsh, pat(4, sign), 65, pat(2, sign>>1)},
		{"rsh by -1", Rsh, pat(sign, sign>>1), ones, pat(1, 0)},
		{"rsh of all", Rsh, pat(0, ones), 1, pat(0, sign-1)},
		{"arsh by 0", Arsh, pat(5, 2), 0, pat(5, 2)},
		{"arsh of a known 0", Arsh, pat(sign>>1, 1), 1, pat(sign>>2, 0)},
		{"arsh of a known 1", Arsh, pat(sign, 1), 1, pat(sign+sign>>1, 0)},
		{"arsh of an unknown bit", Arsh, pat(2, sign), 1, pat(1, sign+sign>>1)},
		{"arsh by 63 of a known 0", Arsh, pat(sign-1, 0), 63, pat(0, 0)},
		{"arsh by 63 of a known 1", Arsh, pat(sign, sign-1), 63, pat(ones, 0)},
		{"arsh by 63 of an unknown bit", Arsh, pat(sign-1, sign), 63, pat(0, ones)},
		{"arsh by 64", Arsh, pat(5, sign), 64, pat(5, sign)},
		{"arsh by 65", Arsh, pat(sign, 2), 65, pat(sign+sign>>1, 1)},
		{"arsh by -1", Arsh, pat(sign, 2), ones, pat(ones, 0)},
		{"arsh of all", Arsh, pat(0, ones), 5, pat(0, ones)},
		{"lsh of what may not be", Lsh, pat(3, 1), 1, pat(4, 2)},
		{"rsh of what may not be", Rsh, pat(sign+1, sign), 4, pat(0, sign>>4)},
		{"arsh of what may not be", Arsh, pat(sign+16, sign), 4, pat(1, sign|sign>>1|sign>>2|sign>>3|sign>>4)},
		{"by 0 of what may not be", Arsh, pat(7, 2), 0, pat(5, 2)},
	} {
		if got := c.of(c.p, c.n); got != c.want {
			t.Errorf("%s: of %#x by %d: %#x, not %#x", c.name, c.p, c.n, got, c.want)
		}
	}
}

func TestShiftsBitByBit(t *testing.T) { // P6.3
	counts := []uint64{0, 1, 2, 31, 32, 33, 62, 63, 64, 65, 127, 128, 129, 255, 256, low, 1 << 32, 1<<32 + 1, sign - 1, sign, sign + 3, ones - 63, ones - 1, ones}
	for _, s := range shifts() {
		ofAll(func(p api.Tnum) {
			for _, n := range counts {
				want := s.told(tritsOf(p), int(n%64)).pattern()
				if got := s.of(p, n); got != want {
					t.Fatalf("%s(%#x, %d): %#x, not %#x", s.name, p, n, got, want)
				}
			}
		})
		for n := range uint64(200) {
			for _, p := range edges() {
				want := s.told(tritsOf(p), int(n%64)).pattern()
				if got := s.of(p, n); got != want {
					t.Fatalf("%s(%#x, %d): %#x, not %#x", s.name, p, n, got, want)
				}
			}
		}
	}
}

func TestShiftsOfAllNumbers(t *testing.T) { // P6.3, P6.5
	for _, s := range shifts() {
		for _, p := range small([]int{0, 1, 32, 62, 63}, 0x00FF00FF00FF00FF) {
			for n := range uint64(64) {
				var results []uint64
				for _, x := range numbersOf(p) {
					results = append(results, s.do(x, n))
				}
				if got, want := s.of(p, n), inCommon(results); got != want {
					t.Fatalf("%s(%#x, %d): %#x, not %#x", s.name, p, n, got, want)
				}
			}
		}
	}
}

func TestCutByHand(t *testing.T) { // P6.3
	for _, c := range []struct {
		p    api.Tnum
		n    int
		want api.Tnum
	}{
		{pat(0x1FF, 0), 1, pat(0xFF, 0)},
		{pat(0x123456789ABCDEF0, 0), 1, pat(0xF0, 0)},
		{pat(0x123456789ABCDEF0, 0), 2, pat(0xDEF0, 0)},
		{pat(0x123456789ABCDEF0, 0), 4, pat(0x9ABCDEF0, 0)},
		{pat(0x123456789ABCDEF0, 0), 8, pat(0x123456789ABCDEF0, 0)},
		{pat(0, ones), 1, pat(0, 0xFF)},
		{pat(0, ones), 2, pat(0, 0xFFFF)},
		{pat(0, ones), 4, pat(0, low)},
		{pat(0, ones), 8, pat(0, ones)},
		{pat(odd, even), 2, pat(0x5555, 0xAAAA)},
		{pat(ones-0x100, 0x100), 1, pat(0xFF, 0)},
		{pat(ones-0x100, 0x100), 2, pat(0xFEFF, 0x100)},
		{pat(sign, low), 4, pat(0, low)},
		{pat(sign, 1), 8, pat(sign, 1)},
		{pat(sign, 1), 3, pat(sign, 1)},
		{pat(sign, 1), 0, pat(sign, 1)},
		{pat(sign, 1), -1, pat(sign, 1)},
		{pat(sign, 1), math.MinInt, pat(sign, 1)},
		{pat(0x1FF, 0x180), 1, pat(0x7F, 0x80)},
		{pat(0x1FF, 0x180), 8, pat(0x7F, 0x180)},
		{pat(0x1FF, 0x180), 3, pat(0x7F, 0x180)},
	} {
		if got := Cut(c.p, c.n); got != c.want {
			t.Errorf("Cut(%#x, %d): %#x, not %#x", c.p, c.n, got, c.want)
		}
	}
}

func TestCutBitByBit(t *testing.T) { // P6.3
	ofAll(func(p api.Tnum) {
		for _, n := range []int{1, 2, 4, 8} {
			l := tritsOf(p)
			for i := 8 * n; i < 64; i++ {
				l[i] = only(0)
			}
			if got, want := Cut(p, n), l.pattern(); got != want {
				t.Fatalf("Cut(%#x, %d): %#x, not %#x", p, n, got, want)
			}
		}
		for _, n := range samples.NoSizes() {
			if got, want := Cut(p, n), tritsOf(p).pattern(); got != want {
				t.Fatalf("Cut(%#x, %d): %#x, not %#x", p, n, got, want)
			}
		}
	})
}

func TestMeetByHand(t *testing.T) { // P6.4
	for _, c := range []struct {
		name string
		a, b api.Tnum
		want api.Tnum
		ok   bool
	}{
		{"none in common", pat(0, 3), pat(5, 0), pat(0, ones), false},
		{"one number", pat(0, 3), pat(2, 0), pat(2, 0), true},
		{"one number that both leave over", pat(4, 3), pat(1, 6), pat(5, 2), true},
		{"one number of two patterns", pat(0, odd), pat(0, even), pat(0, 0), true},
		{"the same number", pat(7, 0), pat(7, 0), pat(7, 0), true},
		{"two numbers", pat(7, 0), pat(6, 0), pat(0, ones), false},
		{"0 and -1", pat(0, 0), pat(ones, 0), pat(0, ones), false},
		{"all and all", pat(0, ones), pat(0, ones), pat(0, ones), true},
		{"all and many", pat(0, ones), pat(4, 3), pat(4, 3), true},
		{"all and -1", pat(0, ones), pat(ones, 0), pat(ones, 0), true},
		{"the same many", pat(sign, low), pat(sign, low), pat(sign, low), true},
		{"many", pat(8, 7), pat(1, 14), pat(9, 6), true},
		{"the highest bits differ", pat(sign, sign-1), pat(0, sign-1), pat(0, ones), false},
		{"one knows the highest bit", pat(0, ones), pat(sign, sign-1), pat(sign, sign-1), true},
		{"what differs isn't known", pat(sign, low), pat(0, ones-low), pat(sign, 0), true},
		{"what may not be: a bit that isn't known", pat(1, 1), pat(0, 0), pat(0, 0), true},
		{"what may not be: both", pat(3, 1), pat(3, 1), pat(2, 1), true},
		{"what may not be: all", pat(ones, ones), pat(ones, ones), pat(0, ones), true},
		{"what may not be: known bits differ", pat(7, 1), pat(5, 1), pat(0, ones), false},
	} {
		if got, ok := Meet(c.a, c.b); got != c.want || ok != c.ok {
			t.Errorf("%s: Meet(%#x, %#x): %#x, %v, not %#x", c.name, c.a, c.b, got, ok, c.want)
		}
		if got, ok := Meet(c.b, c.a); got != c.want || ok != c.ok {
			t.Errorf("%s: Meet(%#x, %#x): %#x, %v, not %#x", c.name, c.b, c.a, got, ok, c.want)
		}
	}
}

// met is a second telling of what two patterns have in common.
func met(a, b trits) (api.Tnum, bool) {
	for i := range a {
		a[i] = may{a[i][0] && b[i][0], a[i][1] && b[i][1]}
		if !a[i][0] && !a[i][1] {
			return pat(0, ones), false
		}
	}
	return a.pattern(), true
}

func TestMeetBitByBit(t *testing.T) { // P6.4
	seed := uint64(8)
	some, none := 0, 0
	check := func(a, b api.Tnum) {
		want, can := met(tritsOf(a), tritsOf(b))
		if got, ok := Meet(a, b); got != want || ok != can {
			t.Fatalf("Meet(%#x, %#x): %#x, %v, not %#x, %v", a, b, got, ok, want, can)
		}
		if can {
			some++
		} else {
			none++
		}
	}
	ofPairs(func(a, b api.Tnum) {
		check(a, b)
		// As b is now, the two have a number in common, till one bit that both know is turned.
		both := ^a.Mask & ^b.Mask
		b.Value = b.Value&^both | a.Value&both
		check(a, b)
		b.Value ^= 1 << (samples.Draw(&seed) % 64)
		check(a, b)
	})
	if some < 10000 || none < 10000 {
		t.Errorf("%d pairs have numbers in common, %d none: too few of one kind", some, none)
	}
}

func TestMeetOfSmall(t *testing.T) { // P6.4, P6.5
	for _, places := range [][]int{{0, 1, 2, 3}, {60, 61, 62, 63}, {0, 31, 32, 63}} {
		for _, a := range small(places, odd) {
			for _, b := range small(places, odd) {
				var both []uint64
				for _, x := range numbersOf(a) {
					if slices.Contains(numbersOf(b), x) {
						both = append(both, x)
					}
				}
				want := pat(0, ones)
				if len(both) > 0 {
					want = inCommon(both)
				}
				if got, ok := Meet(a, b); got != want || ok != (len(both) > 0) {
					t.Fatalf("Meet(%#x, %#x): %#x, %v, not %#x", a, b, got, ok, want)
				}
			}
		}
	}
}

func TestResultsAreHad(t *testing.T) { // P6.5
	seed := uint64(5)
	ofPairs(func(a, b api.Tnum) {
		for range 8 {
			x, y := numberOf(a, &seed), numberOf(b, &seed)
			for _, o := range twos() {
				if got := o.of(a, b); !Has(got, o.do(x, y)) {
					t.Fatalf("%s(%#x, %#x): %#x, but %#x and %#x tell %#x", o.name, a, b, got, x, y, o.do(x, y))
				}
			}
			for _, s := range shifts() {
				if got := s.of(a, y); !Has(got, s.do(x, y%64)) {
					t.Fatalf("%s(%#x, %d): %#x, but %#x tells %#x", s.name, a, y, got, x, s.do(x, y%64))
				}
			}
			for n, want := range map[int]uint64{1: uint64(uint8(x)), 2: uint64(uint16(x)), 4: uint64(uint32(x)), 8: x, 0: x, -1: x} {
				if got := Cut(a, n); !Has(got, want) {
					t.Fatalf("Cut(%#x, %d): %#x, but %#x tells %#x", a, n, got, x, want)
				}
			}
			if got := Range(min(x, y), max(x, y)); !Has(got, x) || !Has(got, y) || !Has(got, x/2+y/2+x&y&1) {
				t.Fatalf("Range of %#x and %#x: %#x", x, y, got)
			}
		}
	})
}

func TestWhatBothHaveIsHadByMeet(t *testing.T) { // P6.5
	seed := uint64(9)
	ofPairs(func(a, b api.Tnum) {
		x := numberOf(a, &seed)
		// b is turned to one that has x too.
		b.Value = x&^b.Mask | b.Value&b.Mask
		got, ok := Meet(a, b)
		if !ok || !Has(got, x) {
			t.Fatalf("Meet(%#x, %#x): %#x, %v, without %#x", a, b, got, ok, x)
		}
		if y := numberOf(got, &seed); !Has(a, y) || !Has(b, y) {
			t.Fatalf("Meet(%#x, %#x): %#x, with %#x", a, b, got, y)
		}
	})
}

func TestAnswersMayBe(t *testing.T) { // P6.1 to P6.4
	ofPairs(func(a, b api.Tnum) {
		meet, _ := Meet(a, b)
		l := []api.Tnum{Range(a.Value, b.Value), Const(a.Value), Lsh(a, b.Value), Rsh(a, b.Value), Arsh(a, b.Value), Cut(a, 2), Cut(a, 8), Cut(a, 5), meet}
		for _, o := range twos() {
			l = append(l, o.of(a, b))
		}
		for i, p := range l {
			if p.Value&p.Mask != 0 {
				t.Fatalf("answer %d of %#x and %#x may not be: %#x", i, a, b, p)
			}
		}
	})
}

func TestWhatMayNotBeIsAsWithoutThoseBits(t *testing.T) { // P6.1 to P6.4
	ofPairs(func(a, b api.Tnum) {
		// Of both patterns some bits that aren't known are set in Value too, by the other one's Value.
		a.Value, b.Value = a.Value&^a.Mask, b.Value&^b.Mask
		c, d := pat(a.Value|b.Value&a.Mask, a.Mask), pat(b.Value|a.Mask&b.Mask, b.Mask)
		for _, o := range twos() {
			if got, want := o.of(c, d), o.of(a, b); got != want {
				t.Fatalf("%s(%#x, %#x): %#x, not %#x", o.name, c, d, got, want)
			}
		}
		for _, s := range shifts() {
			if got, want := s.of(c, d.Value), s.of(a, d.Value); got != want {
				t.Fatalf("%s(%#x, %d): %#x, not %#x", s.name, c, d.Value, got, want)
			}
		}
		for _, n := range []int{1, 2, 4, 8, 0, -8, 16} {
			if got, want := Cut(c, n), Cut(a, n); got != want {
				t.Fatalf("Cut(%#x, %d): %#x, not %#x", c, n, got, want)
			}
		}
		got, ok := Meet(c, d)
		if want, can := Meet(a, b); got != want || ok != can {
			t.Fatalf("Meet(%#x, %#x): %#x, %v, not %#x, %v", c, d, got, ok, want, can)
		}
		for _, x := range []uint64{a.Value, b.Value, c.Value, d.Value, 0, ones} {
			if Has(c, x) != Has(a, x) {
				t.Fatalf("Has(%#x, %#x): %v, not as without those bits", c, x, Has(c, x))
			}
		}
	})
}
