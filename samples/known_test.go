package samples

import (
	"math"
	"slices"
	"testing"

	"halberd/num"
)

func TestNumberIsOfAnyKind(t *testing.T) {
	kinds := []func(x uint64) bool{
		func(x uint64) bool { return x < 256 },
		func(x uint64) bool { return x > 256 && x < 1<<16 },
		func(x uint64) bool { return x > 1<<32+2 && x < 1<<62 },
		func(x uint64) bool { return x > sign-256 && x < sign },
		func(x uint64) bool { return x > sign && x < sign+256 },
		func(x uint64) bool { return -x < 256 },
		func(x uint64) bool { return x == 1<<8 || x == 1<<16 || x == 1<<32 },
		func(x uint64) bool { return x == 1<<8-1 || x == 1<<16-1 || x == 1<<32-1 },
	}
	seed := uint64(2)
	seen := make([]int, len(kinds))
	for range 4000 {
		x := Number(&seed)
		for i, is := range kinds {
			if is(x) {
				seen[i]++
			}
		}
	}
	if slices.Min(seen) < 20 {
		t.Errorf("of each kind: %v", seen)
	}
}

func TestAroundHasTheNumber(t *testing.T) {
	seed := uint64(3)
	edges := []uint64{0, 1, sign - 1, sign, sign + 1, math.MaxUint64}
	for i := range 4000 {
		x := Number(&seed)
		if i < len(edges) {
			x = edges[i]
		}
		if lo, hi := Around(x, &seed); lo > x || hi < x {
			t.Errorf("around %#x: %#x to %#x", x, lo, hi)
		}
		if lo, hi := SignedAround(int64(x), &seed); lo > int64(x) || hi < int64(x) {
			t.Errorf("around %d: %d to %d", int64(x), lo, hi)
		}
	}
}

func TestKnownHasMostNumbers(t *testing.T) {
	seed := uint64(4)
	had, empty, both := 0, 0, 0
	for range 4000 {
		x, n := Known(&seed)
		if num.Has(x, n) {
			had++
		}
		if _, ok := num.Refine(x); !ok {
			empty++
		}
		if x.Bits.Value&x.Bits.Mask != 0 {
			both++
		}
	}
	if had < 3000 || empty < 50 || both < 50 {
		t.Errorf("of 4000: %d numbers are had, %d are empty, %d have bits in both", had, empty, both)
	}
}

func TestNearHasItsEnds(t *testing.T) {
	seed := uint64(5)
	for range 1000 {
		x, _ := Known(&seed)
		l := Near(x)
		for _, n := range []uint64{x.ULo, x.UHi, uint64(x.SLo), uint64(x.SHi), x.Bits.Value | x.Bits.Mask, x.Bits.Value &^ x.Bits.Mask} {
			for _, m := range []uint64{n - 1, n, n + 1} {
				if !slices.Contains(l, m) {
					t.Fatalf("near %#x there is no %#x", x, m)
				}
			}
		}
	}
}
