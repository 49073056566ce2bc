package small

import (
	"math"
	"slices"
	"testing"

	"halberd/api"
	"halberd/num"
	"halberd/samples"
	"halberd/tnum"
)

func TestInHasWhatItSays(t *testing.T) {
	for _, window := range Windows() {
		l := In(window, [2]int{0, 7}, [2]int{1, 4}, [2]int{6, 6})
		if len(l) < 20 {
			t.Errorf("in %#x there are %d", window, len(l))
		}
		for _, k := range l {
			if len(k.Had) == 0 {
				t.Errorf("%#x has nothing in %#x", k.Num, window)
			}
			for i := range Size {
				if slices.Contains(k.Had, i) != num.Has(k.Num, window+uint64(i)) {
					t.Errorf("%#x, in %#x: %v", k.Num, window, k.Had)
				}
			}
		}
	}
}

func TestInHasAllKinds(t *testing.T) {
	l := In(8, [2]int{1, 4}, [2]int{6, 6})
	for _, want := range []Known{
		{api.Num{Bits: tnum.All(), ULo: 9, UHi: 12, SLo: math.MinInt64, SHi: math.MaxInt64}, []int{1, 2, 3, 4}},
		{api.Num{Bits: tnum.All(), UHi: math.MaxUint64, SLo: 9, SHi: 12}, []int{1, 2, 3, 4}},
		{num.Bounds(9, 12), []int{1, 2, 3, 4}},
		{api.Num{Bits: api.Tnum{Value: 1, Mask: math.MaxUint64 - 1}, ULo: 9, UHi: 12, SLo: math.MinInt64, SHi: math.MaxInt64}, []int{1, 3}},
		{num.Const(14), []int{6}},
	} {
		if !slices.ContainsFunc(l, func(k Known) bool { return k.Num == want.Num && slices.Equal(k.Had, want.Had) }) {
			t.Errorf("there is no %#x", want)
		}
	}
}

func TestOnes(t *testing.T) {
	for _, window := range Windows() {
		for i, k := range Ones(window) {
			if k.Num != num.Const(window+uint64(i)) || !slices.Equal(k.Had, []int{i}) {
				t.Errorf("the number %d of %#x: %#x", i, window, k)
			}
		}
	}
}

func TestSomeAreHad(t *testing.T) {
	if got := Some(num.Bounds(3, 90), 40); !slices.Equal(got, []uint64{3, 4, 40, 89, 90}) {
		t.Errorf("of 3 to 90: %v", got)
	}
	seed := uint64(6)
	for range 2000 {
		x, n := samples.Known(&seed)
		l := Some(x, n)
		if len(l) > 6 || num.Has(x, n) && len(l) == 0 {
			t.Fatalf("some of %#x: %#x", x, l)
		}
		for _, m := range l {
			if !num.Has(x, m) || num.Has(x, n) && (n < l[0] || n > l[len(l)-1]) {
				t.Fatalf("some of %#x, and of %#x: %#x", x, n, l)
			}
		}
	}
}
