package samples

import (
	"math"
	"slices"
	"testing"

	"halberd/api"
)

func TestTheSameForTheSameSeed(t *testing.T) {
	a, b, c := uint64(5), uint64(5), uint64(6)
	same := 0
	for range 1000 {
		x := Draw(&a)
		if x != Draw(&b) {
			t.Error("the same seed tells other numbers")
		}
		if x == Draw(&c) {
			same++
		}
	}
	if same > 0 {
		t.Errorf("another seed tells %d of the same numbers", same)
	}
}

func TestDrawTurnsEachBit(t *testing.T) {
	seed := uint64(0)
	all, any := ^uint64(0), uint64(0)
	for range 100 {
		x := Draw(&seed)
		all &= x
		any |= x
	}
	if all != 0 || any != ^uint64(0) {
		t.Errorf("bits that are always 1: %#x; ever: %#x", all, any)
	}
}

func TestBelowTellsAllBelow(t *testing.T) {
	seed := uint64(1)
	seen := make([]int, 10)
	for range 1000 {
		seen[Below(&seed, 10)]++
	}
	if slices.Contains(seen, 0) {
		t.Errorf("of 10 numbers: %v", seen)
	}
}

func TestBytesAreAllBut0(t *testing.T) {
	seed := uint64(2)
	seen := make([]int, 256)
	for length := range 200 {
		l := Bytes(length, &seed)
		if len(l) != length {
			t.Errorf("%d bytes, not %d", len(l), length)
		}
		for _, b := range l {
			seen[b]++
		}
	}
	if seen[0] != 0 || slices.Contains(seen[1:], 0) {
		t.Errorf("of each byte: %v", seen)
	}
}

func TestOrdersAreAll(t *testing.T) {
	for n, want := range []int{1, 1, 2, 6, 24, 120} {
		l := Orders(n)
		slices.SortFunc(l, slices.Compare)
		if l = slices.CompactFunc(l, slices.Equal); len(l) != want {
			t.Errorf("of %d numbers: %d orders, not %d", n, len(l), want)
		}
		for _, o := range l {
			for k, x := range slices.Sorted(slices.Values(o)) {
				if x != k || len(o) != n {
					t.Errorf("of %d numbers: %v", n, o)
				}
			}
		}
	}
}

func TestShuffledTellsAllOrders(t *testing.T) {
	seed := uint64(3)
	seen := map[[3]int]int{}
	for range 600 {
		seen[[3]int(Shuffled(3, &seed))]++
	}
	for _, o := range Orders(3) {
		if seen[[3]int(o)] < 20 {
			t.Errorf("%v: %d times of 600", o, seen[[3]int(o)])
		}
	}
	if len(seen) != 6 {
		t.Errorf("of 3 numbers: %v", seen)
	}
}

func TestNoSizesHasNoSize(t *testing.T) {
	l := NoSizes()
	for n := -9; n <= 70; n++ {
		if slices.Contains(l, n) == slices.Contains([]int{1, 2, 4, 8}, n) {
			t.Errorf("is %d in it?", n)
		}
	}
}

func TestOutsideIsOutside(t *testing.T) {
	for _, ends := range [][2]int{{0, 0}, {1, 16}, {1, 32}, {0, 15}, {1, 256}, {0, 599}} {
		l := Outside(ends[0], ends[1])
		for _, n := range l {
			if n >= ends[0] && n <= ends[1] {
				t.Errorf("%d is outside %v", n, ends)
			}
		}
		for _, n := range []int{ends[0] - 1, ends[1] + 1, math.MinInt, math.MaxInt} {
			if !slices.Contains(l, n) {
				t.Errorf("%d isn't outside %v", n, ends)
			}
		}
	}
}

func TestEndsAreAtTheEnds(t *testing.T) {
	l := Ends()
	if !slices.IsSorted(l) || len(slices.Compact(slices.Clone(l))) != len(l) {
		t.Errorf("ends: %v", l)
	}
	for _, n := range []int{math.MinInt, -1, 0, 1, math.MaxInt} {
		if !slices.Contains(l, n) {
			t.Errorf("%d isn't among %v", n, l)
		}
	}
}

func TestNoFlagsAreAbove2(t *testing.T) {
	l := NoFlags()
	if slices.Min(l) != 3 || slices.Max(l) != math.MaxUint64 {
		t.Errorf("from %d to %d", slices.Min(l), slices.Max(l))
	}
	for _, low := range []uint64{0, 1, 2} {
		for _, bits := range []int{8, 16, 32, 63} {
			if !slices.Contains(l, 1<<bits+low) {
				t.Errorf("2^%d + %d isn't among them", bits, low)
			}
		}
	}
}

func TestUpToHasBothEnds(t *testing.T) {
	if l := UpTo(3); !slices.Equal(l, []int{1, 2, 3}) {
		t.Errorf("up to 3: %v", l)
	}
}

func TestOtherLengthsAreOther(t *testing.T) {
	for length := 1; length <= 32; length++ {
		b := slices.Repeat([]byte{7}, length)
		seen := map[int]bool{}
		for _, other := range OtherLengths(b) {
			seen[len(other)] = true
		}
		if seen[length] || !seen[0] || !seen[39] || !seen[length-1] || !seen[length+1] || !seen[1<<16+length] {
			t.Errorf("other lengths than %d: %v", length, seen)
		}
		if !slices.Equal(b, slices.Repeat([]byte{7}, length)) {
			t.Errorf("what is handed in is %v", b)
		}
	}
}

func TestBesideAnObject(t *testing.T) {
	key := api.Key{Id: 7, Gen: 2}
	l := Beside(key)
	for _, other := range []api.Key{{Id: 7, Gen: 3}, {Id: 7, Gen: 1}, {Id: 8, Gen: 2}, {Id: 6, Gen: 2}, {Id: 2, Gen: 7}, {}} {
		if !slices.Contains(l, other) {
			t.Errorf("%v isn't beside %v", other, key)
		}
	}
	if slices.Contains(l, key) {
		t.Errorf("%v is beside itself", key)
	}
}

func TestTurnAllTurnsEach(t *testing.T) {
	b := []byte{0, 1, 0x80, 0xFF}
	TurnAll(b[:3])
	if !slices.Equal(b, []byte{0xFF, 0xFE, 0x7F, 0xFF}) {
		t.Errorf("turned: %v", b)
	}
}
