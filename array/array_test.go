package array

import (
	"bytes"
	"slices"
	"testing"

	"halberd/api"
	"halberd/samples"
)

// shapes has the sizes and numbers of slots that most tests go through: the edges, and some between.
func shapes() [][2]int {
	var l [][2]int
	for _, size := range []int{1, 2, 7, 8, 31, 32} {
		for _, n := range []int{1, 2, 3, 15, 16} {
			l = append(l, [2]int{size, n})
		}
	}
	return l
}

// kept is what a test keeps of an array: its slots, no two of which share bytes.
type kept [][]byte

func zeros(size, n int) kept {
	m := make(kept, n)
	for k := range m {
		m[k] = make([]byte, size)
	}
	return m
}

func (m kept) copied() kept {
	c := slices.Clone(m)
	for k := range c {
		c[k] = bytes.Clone(c[k])
	}
	return c
}

func made(t *testing.T, size, n int) *Array {
	t.Helper()
	a, err := New(size, n)
	if a == nil || err != api.OK {
		t.Fatalf("New(%d, %d): %v, %d", size, n, a, err)
	}
	return a
}

// filled makes an array whose bytes are drawn, none of them 0.
func filled(t *testing.T, size, n int, seed *uint64) (*Array, kept) {
	t.Helper()
	a, m := made(t, size, n), zeros(size, n)
	for k := range m {
		m[k] = samples.Bytes(size, seed)
		copy(slot(t, a, k), m[k])
	}
	return a, m
}

func slot(t *testing.T, a *Array, k int) []byte {
	t.Helper()
	b, ok := a.Slot(k)
	if !ok || len(b) != a.Size() {
		t.Fatalf("Slot(%d) of %d slots of %d: %v, %v", k, a.Len(), a.Size(), b, ok)
	}
	return b
}

// hold holds all that an array tells against what a test has kept of it.
func hold(t *testing.T, a *Array, m kept) {
	t.Helper()
	if a.Len() != len(m) || a.Size() != len(m[0]) {
		t.Fatalf("%d slots of %d, not %d of %d", a.Len(), a.Size(), len(m), len(m[0]))
	}
	for k := range m {
		if got := slot(t, a, k); !bytes.Equal(got, m[k]) {
			t.Errorf("slot %d: %v, not %v", k, got, m[k])
		}
	}
	if got, want := a.Bytes(), slices.Concat(m...); !bytes.Equal(got, want) {
		t.Errorf("Bytes(): %v, not %v", got, want)
	}
}

func TestExamples(t *testing.T) { // P10.1
	hold(t, made(t, 4, 2), kept{{0, 0, 0, 0}, {0, 0, 0, 0}})
	if a, err := New(0, 2); a != nil || err != api.EINVAL {
		t.Errorf("New(0, 2): %v, %d", a, err)
	}
}

func TestNew(t *testing.T) { // P10.1
	for size := 1; size <= api.MaxValue; size++ {
		for n := 1; n <= api.MaxSlots; n++ {
			hold(t, made(t, size, n), zeros(size, n))
		}
	}
}

func TestLimits(t *testing.T) { // P10.1
	for _, c := range []struct {
		size, n int
		err     api.Errno
	}{
		{1, 1, api.OK}, {32, 1, api.OK}, {1, 16, api.OK}, {32, 16, api.OK},
		{0, 1, api.EINVAL}, {33, 1, api.EINVAL}, {1, 0, api.EINVAL}, {1, 17, api.EINVAL},
		{0, 16, api.EINVAL}, {33, 16, api.EINVAL}, {32, 0, api.EINVAL}, {32, 17, api.EINVAL},
		{0, 0, api.EINVAL}, {33, 17, api.EINVAL}, {16, 32, api.EINVAL}, {512, 1, api.EINVAL},
	} {
		if a, err := New(c.size, c.n); err != c.err || (a == nil) == (err == api.OK) {
			t.Errorf("New(%d, %d): %v, %d, not %d", c.size, c.n, a, err, c.err)
		}
	}
}

func refuse(t *testing.T, sizes, numbers []int) {
	t.Helper()
	for _, size := range sizes {
		for _, n := range numbers {
			if a, err := New(size, n); a != nil || err != api.EINVAL {
				t.Errorf("New(%d, %d): %v, %d", size, n, a, err)
			}
		}
	}
}

func TestNewOfWhatIsNoArray(t *testing.T) { // P10.1
	noSizes, noNumbers := samples.Outside(1, api.MaxValue), samples.Outside(1, api.MaxSlots)
	refuse(t, noSizes, samples.UpTo(api.MaxSlots))
	refuse(t, samples.UpTo(api.MaxValue), noNumbers)
	refuse(t, noSizes, noNumbers)
}

func TestSlotHasItsOwnBytes(t *testing.T) { // P10.2, P10.3
	for _, c := range shapes() {
		size, n := c[0], c[1]
		for _, k := range []int{0, n / 2, n - 1} {
			for _, i := range []int{0, size / 2, size - 1} {
				a, m := made(t, size, n), zeros(size, n)
				slot(t, a, k)[i] = 0xA5
				m[k][i] = 0xA5
				hold(t, a, m)
				if at := bytes.IndexByte(a.Bytes(), 0xA5); at != k*size+i {
					t.Errorf("byte %d of slot %d of size %d is byte %d of all", i, k, size, at)
				}
			}
		}
	}
}

func TestSlotTellsTheBytesThemselves(t *testing.T) { // P10.2
	seed := uint64(1)
	for _, c := range shapes() {
		a, m := filled(t, c[0], c[1], &seed)
		for k := range m {
			first, second := slot(t, a, k), slot(t, a, k)
			samples.TurnAll(first)
			samples.TurnAll(m[k])
			if !bytes.Equal(second, m[k]) || !bytes.Equal(slot(t, a, k), m[k]) {
				t.Errorf("slot %d: what was written to is %v, another telling has %v", k, first, second)
			}
			second[0]++
			m[k][0]++
			if !bytes.Equal(first, m[k]) {
				t.Errorf("slot %d: what was written to is %v, an earlier telling has %v", k, second, first)
			}
		}
		hold(t, a, m)
	}
}

func TestSlotOfNoNumber(t *testing.T) { // P10.2
	seed := uint64(2)
	for _, c := range shapes() {
		a, m := filled(t, c[0], c[1], &seed)
		for _, k := range append(samples.Outside(0, c[1]-1), c[0]*c[1]) {
			if b, ok := a.Slot(k); b != nil || ok {
				t.Errorf("Slot(%d) of %d slots: %v, %v", k, c[1], b, ok)
			}
		}
		hold(t, a, m)
	}
}

// orders tells the slots' numbers rising, falling, from the middle on, and drawn, where some come more than once.
func orders(n int, seed *uint64) [][]int {
	l := make([][]int, 4)
	for k := range n {
		l[0] = append(l[0], k)
		l[1] = append(l[1], n-1-k)
		l[2] = append(l[2], (n/2+k)%n)
	}
	for range 3 * n {
		l[3] = append(l[3], samples.Below(seed, n))
	}
	return l
}

func TestWritingTurnsNoOtherSlot(t *testing.T) { // P10.2, P10.3
	seed := uint64(3)
	for _, c := range shapes() {
		size, n := c[0], c[1]
		for _, order := range orders(n, &seed) {
			a, m := filled(t, size, n, &seed)
			for _, k := range order {
				value := bytes.Repeat([]byte{byte(samples.Draw(&seed))}, size)
				copy(slot(t, a, k), value)
				copy(m[k], value)
				hold(t, a, m)
			}
		}
	}
}

func TestSlotsToldAheadOfWrites(t *testing.T) { // P10.2, P10.3
	seed := uint64(4)
	for _, c := range shapes() {
		size, n := c[0], c[1]
		a, m := made(t, size, n), zeros(size, n)
		var told [][]byte
		for k := range n {
			told = append(told, slot(t, a, k))
		}
		for range 4 * n {
			k, i, x := samples.Below(&seed, n), samples.Below(&seed, size), byte(samples.Draw(&seed))
			told[k][i] = x
			m[k][i] = x
			hold(t, a, m)
			for k := range n {
				if !bytes.Equal(told[k], m[k]) {
					t.Fatalf("slot %d, told ahead: %v, not %v", k, told[k], m[k])
				}
			}
		}
	}
}

// appendToAll appends to each slot, and writes to all that it is given for it.
func appendToAll(t *testing.T, a *Array, m kept) {
	t.Helper()
	for k := range m {
		for _, more := range []int{1, len(m[k]), 600} {
			b := slot(t, a, k)
			if cap(b) != len(b) {
				t.Errorf("slot %d has room for %d bytes behind it", k, cap(b)-len(b))
			}
			b = append(b, bytes.Repeat([]byte{0xEE}, more)...)
			hold(t, a, m)
			if !bytes.Equal(b[:len(m[k])], m[k]) {
				t.Errorf("append to slot %d has %v, not %v", k, b[:len(m[k])], m[k])
			}
			samples.TurnAll(b[:cap(b)])
			hold(t, a, m)
		}
	}
}

func TestAppendTurnsNoSlot(t *testing.T) { // P10.2, P10.3
	seed := uint64(5)
	for _, c := range shapes() {
		a, m := filled(t, c[0], c[1], &seed)
		appendToAll(t, a, m)
		// A copy's list may have spare room, which the first one's hasn't.
		appendToAll(t, a.Copy(), m)
	}
}

func TestBytesIsACopy(t *testing.T) { // P10.2
	seed := uint64(6)
	for _, c := range shapes() {
		a, m := filled(t, c[0], c[1], &seed)
		first, second := a.Bytes(), a.Bytes()
		all := bytes.Clone(first)
		samples.TurnAll(first[:cap(first)])
		hold(t, a, m)
		if !bytes.Equal(second, all) {
			t.Errorf("another telling: %v, not %v", second, all)
		}
		samples.TurnAll(slot(t, a, 0))
		samples.TurnAll(m[0])
		hold(t, a, m)
		if !bytes.Equal(second, all) {
			t.Errorf("a telling ahead of a write: %v, not %v", second, all)
		}
	}
}

func TestCopy(t *testing.T) { // P10.2, P10.3
	seed := uint64(7)
	for _, c := range shapes() {
		a, m := filled(t, c[0], c[1], &seed)
		told, last := slot(t, a, 0), c[1]-1
		ahead, aheadHas := a.Copy(), m.copied()
		told[0], m[0][0] = 0, 0
		behind, behindHas := a.Copy(), m.copied()
		second, secondHas := ahead.Copy(), aheadHas.copied()
		all, has := []*Array{a, ahead, behind, second}, []kept{m, aheadHas, behindHas, secondHas}
		for i, x := range all {
			for j := range all {
				hold(t, all[j], has[j])
			}
			samples.TurnAll(slot(t, x, last))
			samples.TurnAll(has[i][last])
			slot(t, x, 0)[c[0]-1] = byte(i)
			has[i][0][c[0]-1] = byte(i)
		}
		for j := range all {
			hold(t, all[j], has[j])
		}
	}
}

func TestArraysShareNothing(t *testing.T) { // P10.1, P10.3
	for _, c := range shapes() {
		a, b := made(t, c[0], c[1]), made(t, c[0], c[1])
		for k := range c[1] {
			samples.TurnAll(slot(t, a, k))
		}
		hold(t, b, zeros(c[0], c[1]))
		hold(t, made(t, c[0], c[1]), zeros(c[0], c[1]))
	}
}

func TestNilArray(t *testing.T) { // P10.1, P10.2
	var a *Array
	if a.Len() != 0 || a.Size() != 0 || len(a.Bytes()) != 0 || a.Copy() != nil {
		t.Errorf("nil: %d slots of %d, %v, %v", a.Len(), a.Size(), a.Bytes(), a.Copy())
	}
	for _, k := range append(samples.Outside(0, 0), 0) {
		if b, ok := a.Slot(k); b != nil || ok {
			t.Errorf("Slot(%d) of nil: %v, %v", k, b, ok)
		}
	}
	if refused, _ := New(0, 0); refused.Len() != 0 || refused.Copy() != nil {
		t.Errorf("what New refused has %d slots", refused.Len())
	}
}

// script has some arrays, all of one shape, and what is kept of each.
type script struct {
	arrays []*Array
	has    []kept
	seed   uint64
}

// step writes to a slot, or puts a copy of an array in another's place.
func (s *script) step(t *testing.T, size, n int) {
	t.Helper()
	at, from := samples.Below(&s.seed, len(s.arrays)), samples.Below(&s.seed, len(s.arrays))
	k := samples.Below(&s.seed, n+2) - 1
	if samples.Below(&s.seed, 6) == 0 {
		s.arrays[at], s.has[at] = s.arrays[from].Copy(), s.has[from].copied()
		return
	}
	b, ok := s.arrays[at].Slot(k)
	if ok != (k >= 0 && k < n) {
		t.Fatalf("Slot(%d) of %d slots: %v", k, n, ok)
	}
	if ok {
		i := samples.Below(&s.seed, size)
		b[i] += 1 + byte(at)
		s.has[at][k][i] += 1 + byte(at)
	}
}

func TestDrawnScripts(t *testing.T) { // P10.2, P10.3
	for i, c := range shapes() {
		s := &script{seed: uint64(100 + i)}
		for range 4 {
			a, m := filled(t, c[0], c[1], &s.seed)
			s.arrays, s.has = append(s.arrays, a), append(s.has, m)
		}
		for range 100 {
			s.step(t, c[0], c[1])
			for j := range s.arrays {
				hold(t, s.arrays[j], s.has[j])
			}
		}
	}
}
