package samples

import (
	"slices"
	"testing"
)

func TestTheSameForTheSameSeed(t *testing.T) {
	a, b, c := uint64(5), uint64(5), uint64(6)
	same := 0
	for range 1000 {
		x := Draw(&a)
		if x != Draw(&b) {
			t.Error("the same seed tells other numbers")
		}
		if x == Draw(&c) {
			same++
		}
	}
	if same > 0 {
		t.Errorf("another seed tells %d of the same numbers", same)
	}
}

func TestDrawTurnsEachBit(t *testing.T) {
	seed := uint64(0)
	all, any := ^uint64(0), uint64(0)
	for range 100 {
		x := Draw(&seed)
		all &= x
		any |= x
	}
	if all != 0 || any != ^uint64(0) {
		t.Errorf("bits that are always 1: %#x; ever: %#x", all, any)
	}
}

func TestBelowTellsAllBelow(t *testing.T) {
	seed := uint64(1)
	seen := make([]int, 10)
	for range 1000 {
		seen[Below(&seed, 10)]++
	}
	if slices.Contains(seen, 0) {
		t.Errorf("of 10 numbers: %v", seen)
	}
}

func TestNoSizesHasNoSize(t *testing.T) {
	l := NoSizes()
	for n := -9; n <= 70; n++ {
		if slices.Contains(l, n) == slices.Contains([]int{1, 2, 4, 8}, n) {
			t.Errorf("is %d in it?", n)
		}
	}
}
