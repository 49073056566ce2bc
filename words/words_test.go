package words

import (
	"bytes"
	"encoding/binary"
	"math"
	"testing"

	"halberd/samples"
)

const ones = ^uint64(0)

func sizes() []int { return []int{1, 2, 4, 8} }

// numbers has those about each power of two, and some whose bytes are all unlike.
func numbers() []uint64 {
	l := []uint64{0, ones, 0x1122334455667788, 0xF0E1D2C3B4A59687, 0x80FF7F0180FF7F01}
	for i := range 64 {
		p := uint64(1) << i
		l = append(l, p, p-1, p+1, ^p, -p)
	}
	return l
}

// power tells 256 to the power n, for an n below 8.
func power(n int) uint64 {
	p := uint64(1)
	for range n {
		p *= 256
	}
	return p
}

// lowBytes tells a number modulo 256 to the power n.
func lowBytes(x uint64, n int) uint64 {
	if n == 8 {
		return x
	}
	return x % power(n)
}

func TestIsSize(t *testing.T) { // P1.1
	for _, n := range sizes() {
		if !IsSize(n) {
			t.Errorf("IsSize(%d): no", n)
		}
	}
	for _, n := range samples.NoSizes() {
		if IsSize(n) {
			t.Errorf("IsSize(%d): yes", n)
		}
	}
}

func TestZext(t *testing.T) { // P1.1
	for _, c := range []struct {
		x    uint64
		n    int
		want uint64
	}{
		{511, 1, 255},
		{256, 1, 0},
		{0x1122334455667788, 1, 0x88},
		{0x1122334455667788, 2, 0x7788},
		{0x1122334455667788, 4, 0x55667788},
		{0x1122334455667788, 8, 0x1122334455667788},
		{ones, 1, 255},
		{ones, 2, 65535},
		{ones, 4, 1<<32 - 1},
		{ones, 8, ones},
	} {
		if got := Zext(c.x, c.n); got != c.want {
			t.Errorf("Zext(%#x, %d): %#x, not %#x", c.x, c.n, got, c.want)
		}
	}
	for _, x := range numbers() {
		for _, n := range sizes() {
			if got, want := Zext(x, n), lowBytes(x, n); got != want {
				t.Errorf("Zext(%#x, %d): %#x, not %#x", x, n, got, want)
			}
		}
	}
}

func TestSext(t *testing.T) { // P1.1
	for _, c := range []struct {
		x    uint64
		n    int
		want uint64
	}{
		{255, 1, ones},
		{0x7F, 1, 0x7F},
		{0x80, 1, ones - 0x7F},
		{0x17F, 1, 0x7F},
		{0x7FFF, 2, 0x7FFF},
		{0x8000, 2, ones - 0x7FFF},
		{0x1FFFF, 2, ones},
		{0x7FFFFFFF, 4, 0x7FFFFFFF},
		{0x80000000, 4, ones - 0x7FFFFFFF},
		{0xFFFFFFFF00000001, 4, 1},
		{0x8000000000000000, 8, 0x8000000000000000},
		{ones, 8, ones},
	} {
		if got := Sext(c.x, c.n); got != c.want {
			t.Errorf("Sext(%#x, %d): %#x, not %#x", c.x, c.n, got, c.want)
		}
	}
	for _, x := range numbers() {
		for n, want := range map[int]uint64{1: uint64(int8(x)), 2: uint64(int16(x)), 4: uint64(int32(x)), 8: x} {
			if got := Sext(x, n); got != want {
				t.Errorf("Sext(%#x, %d): %#x, not %#x", x, n, got, want)
			}
		}
	}
}

func TestExtendOfNoSize(t *testing.T) { // P1.1
	for _, n := range samples.NoSizes() {
		for _, x := range numbers() {
			if got := Zext(x, n); got != x {
				t.Errorf("Zext(%#x, %d): %#x", x, n, got)
			}
			if got := Sext(x, n); got != x {
				t.Errorf("Sext(%#x, %d): %#x", x, n, got)
			}
		}
	}
}

func TestLoad(t *testing.T) { // P1.2
	b := []byte{1, 2, 3, 4, 5, 6, 7, 8, 0xFF, 0x80}
	for _, c := range []struct {
		at, n int
		want  uint64
	}{
		{0, 1, 1},
		{9, 1, 0x80},
		{0, 2, 0x0201},
		{8, 2, 0x80FF},
		{1, 4, 0x05040302},
		{6, 4, 0x80FF0807},
		{0, 8, 0x0807060504030201},
		{2, 8, 0x80FF080706050403},
	} {
		if got, ok := Load(b, c.at, c.n); got != c.want || !ok {
			t.Errorf("Load(at %d, %d): %#x, %v, not %#x", c.at, c.n, got, ok, c.want)
		}
	}
}

func TestLoadLeavesBytes(t *testing.T) { // P1.2
	b := []byte{9, 8, 7, 6, 5, 4, 3, 2, 1}
	kept := bytes.Clone(b)
	for at := -1; at <= len(b); at++ {
		for n := -1; n <= 9; n++ {
			Load(b, at, n)
		}
	}
	if !bytes.Equal(b, kept) {
		t.Errorf("Load has turned the bytes: %v", b)
	}
}

func TestStore(t *testing.T) { // P1.2
	for _, c := range []struct {
		at, n int
		x     uint64
		want  []byte
	}{
		{0, 2, 258, []byte{2, 1, 9, 9, 9, 9, 9, 9, 9}},
		{8, 1, 0x1234, []byte{9, 9, 9, 9, 9, 9, 9, 9, 0x34}},
		{7, 2, 0x1BEEF, []byte{9, 9, 9, 9, 9, 9, 9, 0xEF, 0xBE}},
		{3, 4, 0xAABBCCDD11223344, []byte{9, 9, 9, 0x44, 0x33, 0x22, 0x11, 9, 9}},
		{1, 8, 0x1122334455667788, []byte{9, 0x88, 0x77, 0x66, 0x55, 0x44, 0x33, 0x22, 0x11}},
		{4, 1, 0, []byte{9, 9, 9, 9, 0, 9, 9, 9, 9}},
	} {
		b := bytes.Repeat([]byte{9}, 9)
		if ok := Store(b, c.at, c.n, c.x); !ok || !bytes.Equal(b, c.want) {
			t.Errorf("Store(at %d, %d, %#x): %v, %v, not %v", c.at, c.n, c.x, ok, b, c.want)
		}
	}
}

// noPlaces has places and sizes that no nine bytes have; some sums of both go over.
func noPlaces() [][2]int {
	l := [][2]int{
		{-1, 1}, {-1, 2}, {-8, 8}, {9, 1}, {8, 2}, {6, 4}, {2, 8}, {10, 1}, {100, 8},
		{math.MaxInt, 1}, {math.MaxInt, 8}, {math.MaxInt - 7, 8}, {math.MaxInt - 3, 4}, {math.MinInt, 1}, {math.MinInt, 8},
	}
	for _, n := range samples.NoSizes() {
		l = append(l, [2]int{0, n}, [2]int{9, n}, [2]int{1, n})
	}
	return l
}

func TestLoadAndStoreOfWhatIsNotThere(t *testing.T) { // P1.2
	for _, c := range noPlaces() {
		b := []byte{1, 2, 3, 4, 5, 6, 7, 8, 9}
		kept := bytes.Clone(b)
		if x, ok := Load(b, c[0], c[1]); x != 0 || ok {
			t.Errorf("Load(at %d, %d): %#x, %v", c[0], c[1], x, ok)
		}
		if Store(b, c[0], c[1], ones) || !bytes.Equal(b, kept) {
			t.Errorf("Store(at %d, %d): %v", c[0], c[1], b)
		}
	}
	for _, n := range sizes() {
		for _, b := range [][]byte{nil, {}, make([]byte, n-1)} {
			if x, ok := Load(b, 0, n); x != 0 || ok || Store(b, 0, n, 1) {
				t.Errorf("%d bytes of %d are there", n, len(b))
			}
		}
	}
}

func TestSpareRoomIsNotThere(t *testing.T) { // P1.2
	whole := []byte{1, 2, 3, 4, 5, 6, 7, 8, 9, 10, 11, 12}
	kept := bytes.Clone(whole)
	b := whole[:3]
	for _, c := range [][2]int{{3, 1}, {2, 2}, {0, 4}, {0, 8}, {4, 8}} {
		if x, ok := Load(b, c[0], c[1]); x != 0 || ok || Store(b, c[0], c[1], 0) {
			t.Errorf("at %d, %d: bytes behind the end are there", c[0], c[1])
		}
	}
	if !bytes.Equal(whole, kept) {
		t.Errorf("spare room was written to: %v", whole)
	}
}

func TestLow(t *testing.T) { // P1.3
	for n, want := range map[int]uint64{
		math.MinInt: 0, -64: 0, -5: 0, -1: 0, 0: 0,
		1: 1, 2: 3, 3: 7, 8: 255, 32: 1<<32 - 1, 33: 1<<33 - 1, 62: 1<<62 - 1, 63: 1<<63 - 1,
		64: ones, 65: ones, 128: ones, 256: ones, 1 << 32: ones, math.MaxInt: ones,
	} {
		if got := Low(n); got != want {
			t.Errorf("Low(%d): %#x, not %#x", n, got, want)
		}
	}
	for n := range 70 {
		for bit := range 64 {
			if got, want := Low(n)>>bit&1 == 1, bit < n; got != want {
				t.Errorf("Low(%d): bit %d is %v", n, bit, got)
			}
		}
	}
}

// stored tells what bytes are behind a Store that could be done, by the library's own way.
func stored(b []byte, at, n int, x uint64) []byte {
	var all [8]byte
	binary.LittleEndian.PutUint64(all[:], x)
	out := bytes.Clone(b)
	copy(out[at:], all[:n])
	return out
}

func TestWhatIsStoredIsLoaded(t *testing.T) { // P1.4
	filled := []byte{0xA0, 0xA1, 0xA2, 0xA3, 0xA4, 0xA5, 0xA6, 0xA7, 0xA8, 0xA9, 0xAA, 0xAB, 0xAC, 0xAD, 0xAE, 0xAF}
	for long := 0; long <= 12; long++ {
		for at := -2; at <= long+1; at++ {
			for n := -1; n <= 10; n++ {
				for _, x := range numbers() {
					checkStored(t, filled, long, at, n, x)
				}
			}
		}
	}
}

// checkStored stores to the first bytes of a copy of whole, and looks at all of the copy.
func checkStored(t *testing.T, whole []byte, long, at, n int, x uint64) {
	t.Helper()
	got, want := bytes.Clone(whole), whole
	can := (n == 1 || n == 2 || n == 4 || n == 8) && at >= 0 && at+n <= long
	if can {
		want = stored(whole, at, n, x)
	}
	if ok := Store(got[:long], at, n, x); ok != can || !bytes.Equal(got, want) {
		t.Errorf("Store(%d bytes, at %d, %d, %#x): %v, %v, not %v", long, at, n, x, ok, got, want)
	}
	low := uint64(0)
	if can {
		low = lowBytes(x, n)
	}
	if y, ok := Load(got[:long], at, n); y != low || ok != can {
		t.Errorf("Load(%d bytes, at %d, %d): %#x, %v, not %#x", long, at, n, y, ok, low)
	}
}
