package hash

import (
	"bytes"
	"fmt"
	"math"
	"slices"
	"testing"

	"halberd/api"
	"halberd/samples"
)

// shape is a length of keys, a size and a number of slots.
type shape struct{ key, size, n int }

func shapes() []shape {
	var l []shape
	for _, key := range []int{1, 2, 7, 8} {
		for _, size := range []int{1, 2, 31, 32} {
			for _, n := range []int{1, 2, 3, 15, 16} {
				l = append(l, shape{key, size, n})
			}
		}
	}
	return l
}

// kept is what a test keeps of a map: by slots the keys, nil of a free one, and the values, none of which share bytes.
type kept struct {
	shape
	keys, values [][]byte
}

func empty(s shape) *kept {
	m := &kept{s, make([][]byte, s.n), make([][]byte, s.n)}
	for k := range m.values {
		m.values[k] = make([]byte, s.size)
	}
	return m
}

func (m *kept) copied() *kept {
	c := &kept{m.shape, slices.Clone(m.keys), slices.Clone(m.values)}
	for k := range m.n {
		c.keys[k], c.values[k] = bytes.Clone(m.keys[k]), bytes.Clone(m.values[k])
	}
	return c
}

func (m *kept) slotOf(key []byte) int {
	return slices.IndexFunc(m.keys, func(k []byte) bool { return k != nil && bytes.Equal(k, key) })
}

func (m *kept) firstFree() int {
	return slices.IndexFunc(m.keys, func(k []byte) bool { return k == nil })
}

func (m *kept) put(key, value []byte, flags uint64) (int, api.Errno) {
	at, free := m.slotOf(key), m.firstFree()
	if len(key) != m.key || len(value) != m.size || flags > 2 {
		return 0, api.EINVAL
	}
	if at < 0 && flags == 2 {
		return 0, api.ENOENT
	}
	if at >= 0 && flags == 1 {
		return 0, api.EEXIST
	}
	if at < 0 && free < 0 {
		return 0, api.ENOSPC
	}
	if at < 0 {
		at = free
	}
	m.keys[at], m.values[at] = bytes.Clone(key), bytes.Clone(value)
	return at, api.OK
}

func (m *kept) drop(key []byte) api.Errno {
	if len(key) != m.key {
		return api.EINVAL
	}
	at := m.slotOf(key)
	if at < 0 {
		return api.ENOENT
	}
	m.keys[at] = nil
	return api.OK
}

// had tells the keys, rising by their slots.
func (m *kept) had() [][]byte {
	return slices.DeleteFunc(slices.Clone(m.keys), func(k []byte) bool { return k == nil })
}

func made(t *testing.T, s shape) (*Hash, *kept) {
	t.Helper()
	h, err := New(s.key, s.size, s.n)
	if h == nil || err != api.OK {
		t.Fatalf("New(%d, %d, %d): %v, %d", s.key, s.size, s.n, h, err)
	}
	return h, empty(s)
}

// number makes a key, or a value, of a number, its least byte last.
func number(length, x int) []byte {
	b := make([]byte, length)
	for i := range b {
		b[length-1-i] = byte(x >> (8 * min(i, 4)))
	}
	return b
}

// put does the same to a map and to what is kept of it.
func put(t *testing.T, h *Hash, m *kept, key, value []byte, flags uint64) {
	t.Helper()
	want, wantErr := m.put(key, value, flags)
	if got, err := h.Put(key, value, flags); got != want || err != wantErr {
		t.Fatalf("Put(%v, %v, %d): %d, %d, not %d, %d; there was %v", key, value, flags, got, err, want, wantErr, m)
	}
}

func drop(t *testing.T, h *Hash, m *kept, key []byte) {
	t.Helper()
	want := m.drop(key)
	if err := h.Drop(key); err != want {
		t.Fatalf("Drop(%v): %d, not %d; there was %v", key, err, want, m)
	}
}

// full makes a map in each of whose slots a key stands, of a number below 16, which neither rise nor fall by their slots.
func full(t *testing.T, s shape, seed *uint64) (*Hash, *kept) {
	t.Helper()
	h, m := made(t, s)
	for k := range s.n {
		put(t, h, m, number(s.key, (k*7+3)%16), samples.Bytes(s.size, seed), 0)
	}
	hold(t, h, m)
	return h, m
}

func slot(t *testing.T, h *Hash, k int) []byte {
	t.Helper()
	b, ok := h.Slot(k)
	if !ok {
		t.Fatalf("there is no slot %d", k)
	}
	return b
}

func find(t *testing.T, h *Hash, m *kept, key []byte) {
	t.Helper()
	want := m.slotOf(key)
	if got, ok := h.Find(key); got != max(want, 0) || ok != (want >= 0) {
		t.Fatalf("Find(%v): %d, %v, not %d; there is %v", key, got, ok, want, m)
	}
}

// hold holds all that a map tells against what a test has kept of it.
func hold(t *testing.T, h *Hash, m *kept) {
	t.Helper()
	had := m.had()
	if h.Len() != len(had) {
		t.Fatalf("%d keys, not %d", h.Len(), len(had))
	}
	if got := h.Keys(); !slices.EqualFunc(got, had, bytes.Equal) {
		t.Fatalf("Keys(): %v, not %v", got, had)
	}
	for k := range m.n {
		if got := slot(t, h, k); !bytes.Equal(got, m.values[k]) {
			t.Fatalf("slot %d: %v, not %v", k, got, m.values[k])
		}
	}
	if got, want := h.Bytes(), slices.Concat(m.values...); !bytes.Equal(got, want) {
		t.Fatalf("Bytes(): %v, not %v", got, want)
	}
	for _, key := range had {
		find(t, h, m, key)
	}
	for x := range 18 {
		find(t, h, m, number(m.key, x))
	}
}

func TestExample(t *testing.T) { // P11.2, P11.3
	h, m := made(t, shape{2, 1, 1})
	steps := []struct {
		key, value string
		k          int
		err        api.Errno
	}{{"ab", "x", 0, api.OK}, {"cd", "y", 0, api.ENOSPC}, {"ab", "", 0, api.OK}, {"cd", "y", 0, api.OK}}
	for _, s := range steps {
		if s.value == "" {
			drop(t, h, m, []byte(s.key))
			continue
		}
		if k, err := h.Put([]byte(s.key), []byte(s.value), 0); k != s.k || err != s.err {
			t.Errorf("Put(%s, %s): %d, %d", s.key, s.value, k, err)
		}
		m.put([]byte(s.key), []byte(s.value), 0)
		hold(t, h, m)
	}
}

func TestNewOfAllShapes(t *testing.T) { // P11.1
	for key := 1; key <= api.MaxKey; key++ {
		for size := 1; size <= api.MaxValue; size++ {
			for n := 1; n <= api.MaxSlots; n++ {
				h, m := made(t, shape{key, size, n})
				hold(t, h, m)
				for x := range n + 1 {
					put(t, h, m, number(key, x), bytes.Repeat([]byte{byte(x + 1)}, size), 0)
				}
				hold(t, h, m)
			}
		}
	}
}

func TestLimits(t *testing.T) { // P11.1
	for _, c := range []struct {
		key, size, n int
		err          api.Errno
	}{
		{1, 1, 1, api.OK}, {8, 1, 1, api.OK}, {1, 32, 1, api.OK}, {1, 1, 16, api.OK}, {8, 32, 16, api.OK},
		{0, 1, 1, api.EINVAL}, {9, 1, 1, api.EINVAL}, {1, 0, 1, api.EINVAL}, {1, 33, 1, api.EINVAL}, {1, 1, 0, api.EINVAL}, {1, 1, 17, api.EINVAL},
		{0, 32, 16, api.EINVAL}, {9, 32, 16, api.EINVAL}, {8, 0, 16, api.EINVAL}, {8, 33, 16, api.EINVAL}, {8, 32, 0, api.EINVAL}, {8, 32, 17, api.EINVAL},
		{0, 0, 0, api.EINVAL}, {-1, -1, -1, api.EINVAL}, {9, 33, 17, api.EINVAL}, {16, 8, 1, api.EINVAL}, {-1, 1, 1, api.EINVAL},
		{math.MinInt, 1, 1, api.EINVAL}, {math.MaxInt, 1, 1, api.EINVAL}, {1, math.MinInt, 1, api.EINVAL},
		{1, math.MaxInt, 1, api.EINVAL}, {1, 1, math.MinInt, api.EINVAL}, {1, 1, math.MaxInt, api.EINVAL},
	} {
		if h, err := New(c.key, c.size, c.n); err != c.err || (h == nil) == (err == api.OK) {
			t.Errorf("New(%d, %d, %d): %v, %d, not %d", c.key, c.size, c.n, h, err, c.err)
		}
	}
}

func refuse(t *testing.T, keys, sizes, numbers []int) {
	t.Helper()
	for _, key := range keys {
		for _, size := range sizes {
			for _, n := range numbers {
				if h, err := New(key, size, n); h != nil || err != api.EINVAL {
					t.Fatalf("New(%d, %d, %d): %v, %d", key, size, n, h, err)
				}
			}
		}
	}
}

func TestNewOfWhatIsNoMap(t *testing.T) { // P11.1
	keys, sizes, numbers := []int{1, 2, 7, 8}, []int{1, 2, 31, 32}, []int{1, 2, 15, 16}
	noKeys, noSizes, noNumbers := samples.Outside(1, api.MaxKey), samples.Outside(1, api.MaxValue), samples.Outside(1, api.MaxSlots)
	refuse(t, noKeys, samples.UpTo(api.MaxValue), numbers)
	refuse(t, samples.UpTo(api.MaxKey), noSizes, numbers)
	refuse(t, keys, sizes, noNumbers)
	refuse(t, noKeys, noSizes, numbers)
	refuse(t, noKeys, sizes, noNumbers)
	refuse(t, keys, noSizes, noNumbers)
	refuse(t, noKeys[:9], noSizes[len(noSizes)-9:], noNumbers[:9])
}

func TestPutFlags(t *testing.T) { // P11.2
	old, other, more, x, y := []byte("k0"), []byte("k1"), []byte("k2"), []byte("xx"), []byte("yy")
	for _, c := range []struct {
		has   [][]byte
		key   []byte
		flags uint64
		k     int
		err   api.Errno
	}{
		{nil, old, 0, 0, api.OK}, {nil, old, 1, 0, api.OK}, {nil, old, 2, 0, api.ENOENT},
		{[][]byte{other}, old, 0, 1, api.OK}, {[][]byte{other}, old, 1, 1, api.OK}, {[][]byte{other}, old, 2, 0, api.ENOENT},
		{[][]byte{old}, old, 0, 0, api.OK}, {[][]byte{old}, old, 1, 0, api.EEXIST}, {[][]byte{old}, old, 2, 0, api.OK},
		{[][]byte{other, old}, old, 0, 1, api.OK}, {[][]byte{other, old}, old, 1, 0, api.EEXIST}, {[][]byte{other, old}, old, 2, 1, api.OK},
		{[][]byte{other, old}, more, 0, 0, api.ENOSPC}, {[][]byte{other, old}, more, 1, 0, api.ENOSPC}, {[][]byte{other, old}, more, 2, 0, api.ENOENT},
	} {
		h, m := made(t, shape{2, 2, 2})
		for _, key := range c.has {
			put(t, h, m, key, x, 0)
		}
		if k, err := h.Put(c.key, y, c.flags); k != c.k || err != c.err {
			t.Errorf("Put(%s, flags %d) into %s: %d, %d, not %d, %d", c.key, c.flags, c.has, k, err, c.k, c.err)
		}
		m.put(c.key, y, c.flags)
		hold(t, h, m)
	}
}

// partly tells maps that are empty, have a key, have some with free slots between, and are full.
func partly(t *testing.T, s shape, seed *uint64) ([]*Hash, []*kept) {
	t.Helper()
	maps, has := make([]*Hash, 4), make([]*kept, 4)
	for i := range maps {
		maps[i], has[i] = full(t, s, seed)
		for k, key := range has[i].had() {
			if i == 0 || i == 1 && k > 0 || i == 2 && k%2 == 0 {
				drop(t, maps[i], has[i], key)
			}
		}
	}
	return maps, has
}

func refused(t *testing.T, h *Hash, m *kept, key, value []byte, flags uint64, want api.Errno) {
	t.Helper()
	if k, err := h.Put(key, value, flags); k != 0 || err != want {
		t.Fatalf("Put(%v, %v, %d): %d, %d, not 0, %d; there is %v", key, value, flags, k, err, want, m)
	}
}

func TestPutOfOtherLengthsOrFlags(t *testing.T) { // P11.2
	seed := uint64(1)
	for _, s := range []shape{{1, 1, 3}, {2, 3, 4}, {7, 31, 5}, {8, 32, 16}} {
		maps, has := partly(t, s, &seed)
		for i, h := range maps {
			for _, key := range [][]byte{number(s.key, 3), number(s.key, 17)} {
				value := samples.Bytes(s.size, &seed)
				for flags := range uint64(3) {
					for _, short := range samples.OtherLengths(key) {
						refused(t, h, has[i], short, value, flags, api.EINVAL)
					}
					for _, short := range samples.OtherLengths(value) {
						refused(t, h, has[i], key, short, flags, api.EINVAL)
					}
					refused(t, h, has[i], key[1:], value[1:], flags, api.EINVAL)
				}
				for _, flags := range samples.NoFlags() {
					refused(t, h, has[i], key, value, flags, api.EINVAL)
					refused(t, h, has[i], key[1:], value, flags, api.EINVAL)
					refused(t, h, has[i], key, value[1:], flags, api.EINVAL)
				}
			}
			hold(t, h, has[i])
		}
	}
}

func TestTheErrorNamedFirst(t *testing.T) { // P11.2, P11.3
	seed := uint64(2)
	h, m := full(t, shape{2, 3, 4}, &seed)
	there, absent, value := number(2, 3), number(2, 17), []byte("new")
	// Flags beyond 2, or a wrong value, with what would tell each of the others.
	refused(t, h, m, absent, value[1:], 2, api.EINVAL)
	refused(t, h, m, there, value[1:], 1, api.EINVAL)
	refused(t, h, m, absent, value[1:], 0, api.EINVAL)
	refused(t, h, m, absent, value[1:], 1, api.EINVAL)
	refused(t, h, m, absent[1:], value, 2, api.EINVAL)
	refused(t, h, m, absent[1:], value, 0, api.EINVAL)
	refused(t, h, m, there, value, 3, api.EINVAL)
	refused(t, h, m, absent, value, 3, api.EINVAL)
	// Not there, and no slot free.
	refused(t, h, m, absent, value, 2, api.ENOENT)
	refused(t, h, m, absent, value, 1, api.ENOSPC)
	refused(t, h, m, there, value, 1, api.EEXIST)
	for _, key := range [][]byte{nil, {}, absent[1:], there[1:], append(bytes.Clone(there), 0)} {
		if err := h.Drop(key); err != api.EINVAL {
			t.Errorf("Drop(%v): %d", key, err)
		}
	}
	hold(t, h, m)
}

func TestDropOfWhatIsNotThere(t *testing.T) { // P11.3
	seed := uint64(3)
	for _, s := range shapes() {
		maps, has := partly(t, s, &seed)
		for i, h := range maps {
			for _, short := range samples.OtherLengths(number(s.key, 3)) {
				drop(t, h, has[i], short)
			}
			for x := 16; x < 20; x++ {
				drop(t, h, has[i], number(s.key, x))
			}
			hold(t, h, has[i])
			for _, key := range has[i].had() {
				drop(t, h, has[i], key)
				if err := h.Drop(key); err != api.ENOENT {
					t.Errorf("once more Drop(%v): %d", key, err)
				}
				hold(t, h, has[i])
			}
		}
	}
}

func TestFindOfOtherLengths(t *testing.T) { // P11.1
	seed := uint64(4)
	for _, s := range shapes() {
		maps, has := partly(t, s, &seed)
		for i, h := range maps {
			for k := range s.n {
				for _, key := range samples.OtherLengths(number(s.key, (k*7+3)%16)) {
					if at, ok := h.Find(key); at != 0 || ok {
						t.Fatalf("Find(%v) of keys of %d bytes: %d, %v", key, s.key, at, ok)
					}
				}
			}
			hold(t, h, has[i])
		}
	}
}

// dropAndFill drops the keys of slots in an order, and puts others till the map is full.
func dropAndFill(t *testing.T, s shape, order []int, seed *uint64) {
	t.Helper()
	h, m := full(t, s, seed)
	for _, k := range order {
		drop(t, h, m, m.keys[k])
	}
	hold(t, h, m)
	rising := slices.Sorted(slices.Values(order))
	for i, k := range rising {
		key, value := number(s.key, 30+i), samples.Bytes(s.size, seed)
		if got, err := h.Put(key, value, uint64(i%2)); got != k || err != api.OK {
			t.Fatalf("behind drops of %v put %d is in slot %d, %d, not %d", order, i, got, err, k)
		}
		m.put(key, value, 0)
		hold(t, h, m)
	}
	put(t, h, m, number(s.key, 29), samples.Bytes(s.size, seed), 0)
	hold(t, h, m)
}

func TestTheLeastFreeSlot(t *testing.T) { // P11.2, P11.3
	seed := uint64(5)
	for n := 1; n <= 5; n++ {
		for _, order := range samples.Orders(n) {
			for some := 1; some <= n; some++ {
				dropAndFill(t, shape{2, 1, n}, order[:some], &seed)
			}
		}
	}
	for range 300 {
		order := samples.Shuffled(16, &seed)
		dropAndFill(t, shape{1, 2, 16}, order[:1+samples.Below(&seed, 16)], &seed)
	}
}

func TestDropsAmidPuts(t *testing.T) { // P11.2, P11.3, P11.4
	seed := uint64(6)
	h, m := full(t, shape{1, 1, 4}, &seed)
	for _, k := range []int{2, 0} {
		drop(t, h, m, m.keys[k])
	}
	for _, c := range []struct{ put, slot, drop int }{{40, 0, 1}, {41, 1, 3}, {42, 2, 1}, {43, 1, 0}, {44, 0, 2}} {
		if k, err := h.Put(number(1, c.put), []byte{1}, 1); k != c.slot || err != api.OK {
			t.Errorf("key %d is in slot %d, %d, not %d", c.put, k, err, c.slot)
		}
		m.put(number(1, c.put), []byte{1}, 1)
		drop(t, h, m, m.keys[c.drop])
		hold(t, h, m)
	}
}

func TestBytesOfAFreeSlotStay(t *testing.T) { // P11.2, P11.3
	seed := uint64(7)
	for _, s := range shapes() {
		h, m := full(t, s, &seed)
		for _, k := range []int{0, s.n / 2, s.n - 1} {
			told, value := slot(t, h, k), bytes.Clone(m.values[k])
			if m.keys[k] == nil {
				continue
			}
			drop(t, h, m, m.keys[k])
			if !bytes.Equal(slot(t, h, k), value) {
				t.Errorf("slot %d, free: %v, not %v", k, slot(t, h, k), value)
			}
			hold(t, h, m)
			samples.TurnAll(told)
			samples.TurnAll(m.values[k])
			hold(t, h, m)
			// Zeros, so that what was there would be seen in whatever isn't written.
			put(t, h, m, number(s.key, 17+k), make([]byte, s.size), 0)
			hold(t, h, m)
			if !bytes.Equal(told, make([]byte, s.size)) {
				t.Errorf("slot %d, told ahead: %v", k, told)
			}
		}
	}
}

func TestPutOnceMore(t *testing.T) { // P11.2, P11.4
	seed := uint64(8)
	for _, s := range shapes() {
		h, m := full(t, s, &seed)
		for range 2 {
			for k := s.n - 1; k >= 0; k-- {
				told, value := slot(t, h, k), samples.Bytes(s.size, &seed)
				put(t, h, m, m.keys[k], value, uint64(k%2)*2)
				hold(t, h, m)
				if !bytes.Equal(told, value) {
					t.Errorf("slot %d, told ahead: %v, not %v", k, told, value)
				}
			}
		}
	}
}

// fillDropAll goes with some keys through a map that has room for just these, and holds it at each step.
func fillDropAll(t *testing.T, size int, keys [][]byte) {
	t.Helper()
	h, m := made(t, shape{len(keys[0]), size, min(len(keys), api.MaxSlots)})
	for i, key := range keys {
		put(t, h, m, key, bytes.Repeat([]byte{byte(i + 1)}, size), 1)
	}
	hold(t, h, m)
	for _, key := range keys {
		drop(t, h, m, key)
		hold(t, h, m)
	}
	hold(t, h, m)
}

func TestKeysThatDifferInOneByte(t *testing.T) { // P11.1, P11.2, P11.3, P11.4
	for length := 1; length <= api.MaxKey; length++ {
		for _, first := range []byte{0, 1, 0x61, 0x7F, 0x80, 0xC3, 0xFF} {
			base := bytes.Repeat([]byte{first}, length)
			for at := range length {
				keys := [][]byte{base}
				for bit := range 8 {
					key := bytes.Clone(base)
					key[at] ^= 1 << bit
					keys = append(keys, key)
				}
				fillDropAll(t, 1, keys)
			}
			keys := [][]byte{base}
			for at := range length {
				key := bytes.Clone(base)
				key[at]++
				keys = append(keys, key)
			}
			fillDropAll(t, 2, keys)
		}
	}
}

func TestAllKeysOfOneByte(t *testing.T) { // P11.4
	for from := range 241 {
		var keys [][]byte
		for x := range 16 {
			keys = append(keys, []byte{byte(from + x)})
		}
		fillDropAll(t, 1, keys)
	}
}

func TestTheZeroKey(t *testing.T) { // P11.1, P11.2, P11.3
	for length := 1; length <= api.MaxKey; length++ {
		h, m := made(t, shape{length, 2, 2})
		zero := make([]byte, length)
		find(t, h, m, zero)
		drop(t, h, m, zero)
		refused(t, h, m, zero, []byte{1, 2}, 2, api.ENOENT)
		put(t, h, m, zero, []byte{1, 2}, 1)
		hold(t, h, m)
		refused(t, h, m, zero, []byte{3, 4}, 1, api.EEXIST)
		put(t, h, m, zero, []byte{0, 0}, 2)
		hold(t, h, m)
		drop(t, h, m, zero)
		hold(t, h, m)
	}
}

func TestSlotTellsTheBytesThemselves(t *testing.T) { // P11.3
	seed := uint64(9)
	for _, s := range shapes() {
		maps, has := partly(t, s, &seed)
		for i, h := range maps {
			for k := range s.n {
				b := slot(t, h, k)
				samples.TurnAll(b)
				samples.TurnAll(has[i].values[k])
				hold(t, h, has[i])
				b = append(b, 0xEE, 0xEE)
				samples.TurnAll(b[:cap(b)])
				hold(t, h, has[i])
			}
		}
	}
}

func TestSlotOfNoNumber(t *testing.T) { // P11.3
	seed := uint64(10)
	for _, s := range shapes() {
		h, m := full(t, s, &seed)
		for _, k := range append(samples.Outside(0, s.n-1), s.n*s.size) {
			if b, ok := h.Slot(k); b != nil || ok {
				t.Errorf("Slot(%d) of %d slots: %v, %v", k, s.n, b, ok)
			}
		}
		hold(t, h, m)
	}
}

func TestWhatIsHandedInIsNotKept(t *testing.T) { // P11.2, P11.3
	seed := uint64(11)
	for _, s := range shapes() {
		h, m := made(t, s)
		for x := range s.n + 2 {
			key, value := append(number(s.key, x), 1, 2, 3), append(samples.Bytes(s.size, &seed), 4, 5, 6)
			keyWas, valueWas := bytes.Clone(key), bytes.Clone(value)
			put(t, h, m, key[:s.key], value[:s.size], 0)
			put(t, h, m, key[:s.key], value[:s.size], 0)
			find(t, h, m, key[:s.key])
			h.Put(key[:s.key], value[:s.size], 3)
			if !bytes.Equal(key, keyWas) || !bytes.Equal(value, valueWas) {
				t.Errorf("what is handed in is %v, %v, was %v, %v", key, value, keyWas, valueWas)
			}
			samples.TurnAll(key)
			samples.TurnAll(value)
			hold(t, h, m)
		}
		key := append(number(s.key, 0), 9)
		drop(t, h, m, key[:s.key])
		if !bytes.Equal(key, append(number(s.key, 0), 9)) {
			t.Errorf("what is handed to Drop is %v", key)
		}
		samples.TurnAll(key)
		hold(t, h, m)
	}
}

func TestWhatIsHandedInIsOfTheSlots(t *testing.T) { // P11.2
	h, m := made(t, shape{2, 2, 2})
	copy(slot(t, h, 0), "ab")
	copy(slot(t, h, 1), "cd")
	copy(m.values[0], "ab")
	copy(m.values[1], "cd")
	// The key is the bytes of the slot that it comes to stand in, and that the value is written to.
	m.put([]byte("ab"), []byte("xy"), 0)
	if k, err := h.Put(slot(t, h, 0), []byte("xy"), 0); k != 0 || err != api.OK {
		t.Errorf("Put of a key in slot 0: %d, %d", k, err)
	}
	hold(t, h, m)
	m.put([]byte("cd"), []byte("xy"), 0)
	if k, err := h.Put(slot(t, h, 1), slot(t, h, 0), 0); k != 1 || err != api.OK {
		t.Errorf("Put of a key in slot 1: %d, %d", k, err)
	}
	hold(t, h, m)
	put(t, h, m, []byte("cd"), slot(t, h, 1), 2)
	hold(t, h, m)
}

func TestWhatIsToldIsNotKept(t *testing.T) { // P11.3
	seed := uint64(12)
	for _, s := range shapes() {
		maps, has := partly(t, s, &seed)
		for i, h := range maps {
			first, second := h.Keys(), h.Keys()
			for j, key := range first {
				samples.TurnAll(key[:cap(key)])
				if !slices.EqualFunc(first[j+1:], has[i].had()[j+1:], bytes.Equal) {
					t.Errorf("keys that are told share bytes: %v", first)
				}
			}
			clear(first[:cap(first)])
			if !slices.EqualFunc(second, has[i].had(), bytes.Equal) {
				t.Errorf("another telling: %v, not %v", second, has[i].had())
			}
			hold(t, h, has[i])
			all, again := h.Bytes(), h.Bytes()
			samples.TurnAll(all[:cap(all)])
			if !bytes.Equal(again, slices.Concat(has[i].values...)) {
				t.Errorf("another telling: %v", again)
			}
			hold(t, h, has[i])
		}
	}
}

func TestWhatWasToldStays(t *testing.T) { // P11.3
	seed := uint64(13)
	for _, s := range shapes() {
		h, m := full(t, s, &seed)
		keys, all, had := h.Keys(), h.Bytes(), m.copied()
		for k := range s.n {
			drop(t, h, m, m.keys[k])
			put(t, h, m, number(s.key, 20+k), samples.Bytes(s.size, &seed), 0)
		}
		hold(t, h, m)
		if !slices.EqualFunc(keys, had.keys, bytes.Equal) || !bytes.Equal(all, slices.Concat(had.values...)) {
			t.Errorf("told ahead of changes: %v, %v, not %v", keys, all, had)
		}
	}
}

// changes has what may be done to a map: each is seen in a copy that shares a part with it.
func changes() []func(t *testing.T, h *Hash, m *kept, seed *uint64) {
	return []func(t *testing.T, h *Hash, m *kept, seed *uint64){
		func(t *testing.T, h *Hash, m *kept, seed *uint64) {
			put(t, h, m, number(m.key, 16), samples.Bytes(m.size, seed), 0)
		},
		func(t *testing.T, h *Hash, m *kept, seed *uint64) { drop(t, h, m, number(m.key, 3)) },
		func(t *testing.T, h *Hash, m *kept, seed *uint64) {
			put(t, h, m, number(m.key, 3), samples.Bytes(m.size, seed), 2)
		},
		func(t *testing.T, h *Hash, m *kept, seed *uint64) {
			samples.TurnAll(slot(t, h, m.n-1))
			samples.TurnAll(m.values[m.n-1])
		},
		func(t *testing.T, h *Hash, m *kept, seed *uint64) {
			for x := range m.n {
				put(t, h, m, number(m.key, 200+x), samples.Bytes(m.size, seed), 1)
			}
		},
		func(t *testing.T, h *Hash, m *kept, seed *uint64) {
			for _, key := range slices.Backward(m.had()) {
				drop(t, h, m, key)
			}
		},
	}
}

func TestCopy(t *testing.T) { // P11.3
	seed := uint64(14)
	for _, s := range shapes() {
		for _, change := range changes() {
			maps, has := partly(t, s, &seed)
			for i, h := range maps {
				ahead, aheadHas := h.Copy(), has[i].copied()
				hold(t, ahead, aheadHas)
				change(t, h, has[i], &seed)
				behind, behindHas := h.Copy(), has[i].copied()
				second, secondHas := ahead.Copy(), aheadHas.copied()
				all, allHas := []*Hash{h, ahead, behind, second}, []*kept{has[i], aheadHas, behindHas, secondHas}
				for j := range all {
					for _, next := range changes() {
						next(t, all[j], allHas[j], &seed)
					}
					for o := range all {
						hold(t, all[o], allHas[o])
					}
				}
			}
		}
	}
}

func TestACopyHasTheSameLimits(t *testing.T) { // P11.2, P11.3
	seed := uint64(15)
	for _, s := range shapes() {
		maps, has := partly(t, s, &seed)
		for i, h := range maps {
			c := h.Copy()
			refused(t, c, has[i], samples.Bytes(s.key+1, &seed), samples.Bytes(s.size, &seed), 0, api.EINVAL)
			refused(t, c, has[i], samples.Bytes(s.key-1, &seed), samples.Bytes(s.size, &seed), 0, api.EINVAL)
			refused(t, c, has[i], samples.Bytes(s.key, &seed), samples.Bytes(s.size+1, &seed), 0, api.EINVAL)
			refused(t, c, has[i], samples.Bytes(s.key, &seed), samples.Bytes(s.size-1, &seed), 0, api.EINVAL)
			for x := range s.n + 1 {
				put(t, c, has[i], number(s.key, 16+x), samples.Bytes(s.size, &seed), 0)
			}
			hold(t, c, has[i])
		}
	}
}

func TestMapsShareNothing(t *testing.T) { // P11.1
	seed := uint64(16)
	for _, s := range shapes() {
		a, aHas := made(t, s)
		b, bHas := made(t, s)
		for x := range s.n {
			put(t, a, aHas, number(s.key, x), samples.Bytes(s.size, &seed), 0)
		}
		hold(t, a, aHas)
		hold(t, b, bHas)
		c, cHas := made(t, s)
		hold(t, c, cHas)
	}
}

func TestNilMap(t *testing.T) { // P11.1, P11.2, P11.3
	refusedMap, _ := New(0, 1, 1)
	for _, h := range []*Hash{nil, refusedMap} {
		if h.Len() != 0 || len(h.Keys()) != 0 || len(h.Bytes()) != 0 || h.Copy() != nil {
			t.Errorf("nil: %d, %v, %v, %v", h.Len(), h.Keys(), h.Bytes(), h.Copy())
		}
		for _, b := range [][]byte{nil, {}, {0}, []byte("ab"), make([]byte, 8), make([]byte, 40)} {
			if k, ok := h.Find(b); k != 0 || ok {
				t.Errorf("Find(%v) of nil: %d, %v", b, k, ok)
			}
			if err := h.Drop(b); err != api.EINVAL {
				t.Errorf("Drop(%v) of nil: %d", b, err)
			}
			for _, flags := range append(samples.NoFlags(), 0, 1, 2) {
				refused(t, h, nil, b, b, flags, api.EINVAL)
			}
		}
		for _, k := range append(samples.Outside(0, 0), 0) {
			if b, ok := h.Slot(k); b != nil || ok {
				t.Errorf("Slot(%d) of nil: %v, %v", k, b, ok)
			}
		}
	}
}

// script has some maps, all of one shape, and what is kept of each.
type script struct {
	shape
	maps []*Hash
	has  []*kept
	keys [][]byte
	seed uint64
}

// drawKey draws one of few, so that most come again; some are of another length.
func (s *script) drawKey() []byte {
	key := s.keys[samples.Below(&s.seed, len(s.keys))]
	switch samples.Below(&s.seed, 30) {
	case 0:
		return key[1:]
	case 1:
		return append(bytes.Clone(key), 0)
	}
	return key
}

func (s *script) step(t *testing.T) {
	t.Helper()
	at, from := samples.Below(&s.seed, len(s.maps)), samples.Below(&s.seed, len(s.maps))
	h, m, key := s.maps[at], s.has[at], s.drawKey()
	switch samples.Below(&s.seed, 12) {
	case 0, 1, 2, 3, 4, 5:
		size := s.size
		if samples.Below(&s.seed, 30) == 0 {
			size += 1 - 2*samples.Below(&s.seed, 2)
		}
		put(t, h, m, key, samples.Bytes(size, &s.seed), uint64(samples.Below(&s.seed, 25)*2/15))
	case 6, 7, 8, 9:
		drop(t, h, m, key)
	case 10:
		k, i := samples.Below(&s.seed, s.n), samples.Below(&s.seed, s.size)
		slot(t, h, k)[i]++
		m.values[k][i]++
	case 11:
		s.maps[at], s.has[at] = s.maps[from].Copy(), s.has[from].copied()
	}
}

func TestDrawnScripts(t *testing.T) { // P11.1, P11.2, P11.3, P11.4
	for i, c := range shapes() {
		s := &script{shape: c, seed: uint64(100 + i)}
		for range 3 {
			h, m := made(t, c)
			s.maps, s.has = append(s.maps, h), append(s.has, m)
		}
		for x := range c.n + 3 {
			s.keys = append(s.keys, number(c.key, x*5))
		}
		for range 400 {
			s.step(t)
			for j := range s.maps {
				hold(t, s.maps[j], s.has[j])
			}
		}
	}
}

func TestDrawnFlagsAndErrors(t *testing.T) { // P11.2
	seen := map[string]int{}
	seed := uint64(17)
	h, m := made(t, shape{1, 1, 4})
	for range 3000 {
		key, flags := []byte{byte(samples.Below(&seed, 7))}, uint64(samples.Below(&seed, 4))
		if samples.Below(&seed, 3) == 0 {
			drop(t, h, m, key)
			continue
		}
		_, err := m.copied().put(key, []byte{1}, flags)
		seen[fmt.Sprint(flags, " ", err)]++
		put(t, h, m, key, []byte{byte(samples.Draw(&seed))}, flags)
		hold(t, h, m)
	}
	// Each answer that each of the flags may have is drawn.
	for _, want := range []string{"0 0", "0 28", "1 0", "1 17", "1 28", "2 0", "2 2", "3 22"} {
		if seen[want] < 20 {
			t.Errorf("flags and error %s: %d times", want, seen[want])
		}
	}
	if len(seen) != 8 {
		t.Errorf("flags and errors: %v", seen)
	}
}
