package local

import (
	"bytes"
	"math"
	"slices"
	"testing"

	"halberd/api"
	"halberd/samples"
)

// shape is a size and a number of slots.
type shape struct{ size, n int }

func shapes() []shape {
	var l []shape
	for _, size := range []int{1, 2, 7, 8, 31, 32} {
		for _, n := range []int{1, 2, 3, 15, 16} {
			l = append(l, shape{size, n})
		}
	}
	return l
}

// kept is what a test keeps of a storage: the objects, and the slots, had or not, no two of which share bytes.
type kept struct {
	shape
	objects []api.Key
	slots   [][]byte
}

func empty(s shape) *kept {
	m := &kept{shape: s}
	for range s.n {
		m.slots = append(m.slots, make([]byte, s.size))
	}
	return m
}

func (m *kept) copied() *kept {
	c := &kept{m.shape, slices.Clone(m.objects), slices.Clone(m.slots)}
	for k := range c.slots {
		c.slots[k] = bytes.Clone(c.slots[k])
	}
	return c
}

func (m *kept) get(key api.Key, create bool) (int, api.Errno) {
	at := slices.Index(m.objects, key)
	if at >= 0 {
		return at, api.OK
	}
	if !create {
		return 0, api.ENOENT
	}
	if len(m.objects) == m.n {
		return 0, api.ENOSPC
	}
	at = len(m.objects)
	m.objects, m.slots[at] = append(m.objects, key), make([]byte, m.size)
	return at, api.OK
}

// drop takes the slot out, and puts zeros behind those that are had yet.
func (m *kept) drop(key api.Key) api.Errno {
	at := slices.Index(m.objects, key)
	if at < 0 {
		return api.ENOENT
	}
	m.objects, m.slots = slices.Delete(m.objects, at, at+1), slices.Delete(m.slots, at, at+1)
	m.slots = slices.Insert(m.slots, len(m.objects), make([]byte, m.size))
	return api.OK
}

func made(t *testing.T, c shape) (*Local, *kept) {
	t.Helper()
	s, err := New(c.size, c.n)
	if s == nil || err != api.OK {
		t.Fatalf("New(%d, %d): %v, %d", c.size, c.n, s, err)
	}
	return s, empty(c)
}

// get does the same to a storage and to what is kept of it.
func get(t *testing.T, s *Local, m *kept, key api.Key, create bool) int {
	t.Helper()
	want, wantErr := m.get(key, create)
	if got, err := s.Get(key, create); got != want || err != wantErr {
		t.Fatalf("Get(%v, %v): %d, %d, not %d, %d; there is %v", key, create, got, err, want, wantErr, m)
	}
	return want
}

func drop(t *testing.T, s *Local, m *kept, key api.Key) {
	t.Helper()
	want := m.drop(key)
	if err := s.Drop(key); err != want {
		t.Fatalf("Drop(%v): %d, not %d; there is %v", key, err, want, m)
	}
}

func slot(t *testing.T, s *Local, k int) []byte {
	t.Helper()
	b, ok := s.Slot(k)
	if !ok {
		t.Fatalf("there is no slot %d", k)
	}
	return b
}

// write writes to a slot, had or not.
func write(t *testing.T, s *Local, m *kept, k int, value []byte) {
	t.Helper()
	copy(slot(t, s, k), value)
	copy(m.slots[k], value)
}

// object has numbers that aren't those of slots, and of which no two are the same.
func object(x int) api.Key {
	return api.Key{Id: (x*7 + 3) % 32, Gen: 1 + x%3}
}

// filled makes a storage that some objects have slots of, all of whose slots are drawn, had or not.
func filled(t *testing.T, c shape, some int, seed *uint64) (*Local, *kept) {
	t.Helper()
	s, m := made(t, c)
	for x := range some {
		get(t, s, m, object(x), true)
	}
	for k := range c.n {
		write(t, s, m, k, samples.Bytes(c.size, seed))
	}
	return s, m
}

// hold holds all that a storage tells against what a test has kept of it.
func hold(t *testing.T, s *Local, m *kept) {
	t.Helper()
	for _, key := range m.objects {
		get(t, s, m, key, false)
		get(t, s, m, key, true)
		for _, other := range samples.Beside(key) {
			get(t, s, m, other, false)
		}
	}
	if s.Len() != len(m.objects) {
		t.Fatalf("%d objects, not %d", s.Len(), len(m.objects))
	}
	if got := s.Keys(); !slices.Equal(got, m.objects) {
		t.Fatalf("Keys(): %v, not %v", got, m.objects)
	}
	for k := range m.n {
		if got := slot(t, s, k); !bytes.Equal(got, m.slots[k]) {
			t.Fatalf("slot %d: %v, not %v", k, got, m.slots[k])
		}
	}
	if got, want := s.Bytes(), slices.Concat(m.slots...); !bytes.Equal(got, want) {
		t.Fatalf("Bytes(): %v, not %v", got, want)
	}
}

func TestExample(t *testing.T) { // P12.1, P12.2
	s, m := made(t, shape{1, 1})
	for _, c := range []struct {
		key    api.Key
		create bool
		err    api.Errno
	}{{api.Key{Id: 5, Gen: 1}, true, api.OK}, {api.Key{Id: 5, Gen: 2}, true, api.ENOSPC}, {api.Key{Id: 5, Gen: 2}, false, api.ENOENT}} {
		if k, err := s.Get(c.key, c.create); k != 0 || err != c.err {
			t.Errorf("Get(%v, %v): %d, %d", c.key, c.create, k, err)
		}
		m.get(c.key, c.create)
		hold(t, s, m)
	}
}

func TestNewOfAllShapes(t *testing.T) { // P12.1, P12.2
	for size := 1; size <= api.MaxValue; size++ {
		for n := 1; n <= api.MaxSlots; n++ {
			s, m := made(t, shape{size, n})
			hold(t, s, m)
			for x := range n {
				if k := get(t, s, m, object(x), true); k != x {
					t.Errorf("object %d of %d has slot %d", x, n, k)
				}
				write(t, s, m, x, bytes.Repeat([]byte{byte(x + 1)}, size))
			}
			get(t, s, m, object(n), true)
			hold(t, s, m)
		}
	}
}

func TestLimits(t *testing.T) { // P12.1
	for _, c := range []struct {
		size, n int
		err     api.Errno
	}{
		{1, 1, api.OK}, {32, 1, api.OK}, {1, 16, api.OK}, {32, 16, api.OK},
		{0, 1, api.EINVAL}, {33, 1, api.EINVAL}, {1, 0, api.EINVAL}, {1, 17, api.EINVAL},
		{0, 16, api.EINVAL}, {33, 16, api.EINVAL}, {32, 0, api.EINVAL}, {32, 17, api.EINVAL},
		{0, 0, api.EINVAL}, {-1, -1, api.EINVAL}, {33, 17, api.EINVAL}, {16, 32, api.EINVAL}, {-1, 1, api.EINVAL}, {1, -1, api.EINVAL},
		{math.MinInt, 1, api.EINVAL}, {math.MaxInt, 1, api.EINVAL}, {1, math.MinInt, api.EINVAL}, {1, math.MaxInt, api.EINVAL},
		{math.MinInt, math.MinInt, api.EINVAL}, {math.MaxInt, math.MaxInt, api.EINVAL}, {math.MinInt, math.MaxInt, api.EINVAL},
	} {
		if s, err := New(c.size, c.n); err != c.err || (s == nil) == (err == api.OK) {
			t.Errorf("New(%d, %d): %v, %d, not %d", c.size, c.n, s, err, c.err)
		}
	}
}

func refuse(t *testing.T, sizes, numbers []int) {
	t.Helper()
	for _, size := range sizes {
		for _, n := range numbers {
			if s, err := New(size, n); s != nil || err != api.EINVAL {
				t.Fatalf("New(%d, %d): %v, %d", size, n, s, err)
			}
		}
	}
}

func TestNewOfWhatIsNoStorage(t *testing.T) { // P12.1
	noSizes, noNumbers := samples.Outside(1, api.MaxValue), samples.Outside(1, api.MaxSlots)
	refuse(t, noSizes, samples.UpTo(api.MaxSlots))
	refuse(t, samples.UpTo(api.MaxValue), noNumbers)
	refuse(t, noSizes, noNumbers)
}

func TestGet(t *testing.T) { // P12.2
	a, b, c := api.Key{Id: 2, Gen: 1}, api.Key{Id: 2, Gen: 2}, api.Key{Id: 1, Gen: 2}
	for _, x := range []struct {
		has    []api.Key
		key    api.Key
		create bool
		k      int
		err    api.Errno
		len    int
	}{
		{nil, a, true, 0, api.OK, 1}, {nil, a, false, 0, api.ENOENT, 0},
		{[]api.Key{a}, a, true, 0, api.OK, 1}, {[]api.Key{a}, a, false, 0, api.OK, 1},
		{[]api.Key{a}, b, true, 1, api.OK, 2}, {[]api.Key{a}, b, false, 0, api.ENOENT, 1},
		{[]api.Key{b}, a, true, 1, api.OK, 2}, {[]api.Key{b}, a, false, 0, api.ENOENT, 1},
		{[]api.Key{a}, c, true, 1, api.OK, 2}, {[]api.Key{a}, c, false, 0, api.ENOENT, 1},
		{[]api.Key{b}, c, true, 1, api.OK, 2}, {[]api.Key{b}, c, false, 0, api.ENOENT, 1},
		{[]api.Key{a, b}, b, true, 1, api.OK, 2}, {[]api.Key{a, b}, b, false, 1, api.OK, 2},
		{[]api.Key{b, a}, b, true, 0, api.OK, 2}, {[]api.Key{b, a}, b, false, 0, api.OK, 2},
		{[]api.Key{a, b}, c, true, 0, api.ENOSPC, 2}, {[]api.Key{a, b}, c, false, 0, api.ENOENT, 2},
	} {
		s, m := made(t, shape{2, 2})
		for _, key := range x.has {
			get(t, s, m, key, true)
		}
		if k, err := s.Get(x.key, x.create); k != x.k || err != x.err || s.Len() != x.len {
			t.Errorf("Get(%v, %v) of %v: %d, %d, then %d objects, not %d, %d, then %d", x.key, x.create, x.has, k, err, s.Len(), x.k, x.err, x.len)
		}
		m.get(x.key, x.create)
		hold(t, s, m)
	}
}

func TestGetOnceMore(t *testing.T) { // P12.2
	seed := uint64(1)
	for _, c := range shapes() {
		for some := 1; some <= c.n; some++ {
			s, m := filled(t, c, some, &seed)
			for _, x := range samples.Shuffled(some, &seed) {
				for _, create := range []bool{true, false, false, true} {
					if k := get(t, s, m, object(x), create); k != x {
						t.Errorf("object %d is in slot %d", x, k)
					}
				}
			}
			hold(t, s, m)
		}
	}
}

func TestWhatIsNotThere(t *testing.T) { // P12.2, P12.3
	seed := uint64(2)
	for _, c := range shapes() {
		for some := 0; some <= c.n; some++ {
			s, m := filled(t, c, some, &seed)
			absent := []api.Key{{}, object(some), object(some + 1)}
			for x := range some {
				absent = append(absent, samples.Beside(object(x))...)
			}
			for _, key := range absent {
				if slices.Contains(m.objects, key) {
					continue
				}
				if k, err := s.Get(key, false); k != 0 || err != api.ENOENT {
					t.Fatalf("Get(%v, false) of %v: %d, %d", key, m.objects, k, err)
				}
				if err := s.Drop(key); err != api.ENOENT {
					t.Fatalf("Drop(%v) of %v: %d", key, m.objects, err)
				}
				if k, err := s.Get(key, true); some == c.n && (k != 0 || err != api.ENOSPC) {
					t.Fatalf("Get(%v, true) of %v: %d, %d", key, m.objects, k, err)
				} else if some < c.n {
					// It was there for once, so that its slot is all zeros.
					s.Drop(key)
					m.slots[some] = make([]byte, c.size)
				}
			}
			hold(t, s, m)
		}
	}
}

func TestAFullStorage(t *testing.T) { // P12.2, P12.3
	seed := uint64(3)
	for _, c := range shapes() {
		for x := range c.n {
			s, m := filled(t, c, c.n, &seed)
			get(t, s, m, object(30), true)
			get(t, s, m, object(30), false)
			hold(t, s, m)
			drop(t, s, m, object(x))
			hold(t, s, m)
			if k, err := s.Get(object(30), true); k != c.n-1 || err != api.OK {
				t.Errorf("behind a drop of slot %d of %d: slot %d, %d", x, c.n, k, err)
			}
			m.get(object(30), true)
			if b := slot(t, s, c.n-1); !bytes.Equal(b, make([]byte, c.size)) {
				t.Errorf("a new object's slot: %v", b)
			}
			hold(t, s, m)
			get(t, s, m, object(x), true)
			hold(t, s, m)
		}
	}
}

func TestDropMovesBytes(t *testing.T) { // P12.3
	for _, c := range []struct {
		has  int
		drop int
		want string
	}{
		{5, 0, "bbccddee--"}, {5, 1, "aaccddee--"}, {5, 2, "aabbddee--"}, {5, 3, "aabbccee--"}, {5, 4, "aabbccdd--"},
		// Slots that nobody has stay, but for the last one that was had.
		{4, 0, "bbccdd--ee"}, {4, 3, "aabbcc--ee"}, {3, 0, "bbcc--ddee"}, {3, 1, "aacc--ddee"}, {3, 2, "aabb--ddee"},
		{2, 0, "bb--ccddee"}, {2, 1, "aa--ccddee"}, {1, 0, "--bbccddee"},
	} {
		s, m := made(t, shape{2, 5})
		for x := range c.has {
			get(t, s, m, object(x), true)
		}
		for k := range 5 {
			write(t, s, m, k, bytes.Repeat([]byte{byte('a' + k)}, 2))
		}
		drop(t, s, m, object(c.drop))
		if got := string(bytes.ReplaceAll(s.Bytes(), []byte{0}, []byte("-"))); got != c.want {
			t.Errorf("of %d objects %d is dropped: %s, not %s", c.has, c.drop, got, c.want)
		}
		hold(t, s, m)
	}
}

// dropAndFill drops objects in an order, and gets others till the storage is full.
func dropAndFill(t *testing.T, c shape, order []int, seed *uint64) {
	t.Helper()
	s, m := filled(t, c, c.n, seed)
	for _, x := range order {
		drop(t, s, m, object(x))
		hold(t, s, m)
	}
	for i, x := range order {
		key := object(x)
		if i%2 == 0 {
			key = object(16 + x)
		}
		if k := get(t, s, m, key, true); k != c.n-len(order)+i {
			t.Errorf("behind drops of %v object %d is in slot %d", order, i, k)
		}
		hold(t, s, m)
		write(t, s, m, i, samples.Bytes(c.size, seed))
	}
	get(t, s, m, api.Key{Id: 99}, true)
	hold(t, s, m)
}

func TestDropsInAllOrders(t *testing.T) { // P12.2, P12.3
	seed := uint64(4)
	for n := 1; n <= 5; n++ {
		for _, order := range samples.Orders(n) {
			for some := 1; some <= n; some++ {
				dropAndFill(t, shape{2, n}, order[:some], &seed)
			}
		}
	}
	for range 300 {
		order := samples.Shuffled(16, &seed)
		dropAndFill(t, shape{3, 16}, order[:1+samples.Below(&seed, 16)], &seed)
	}
}

func TestDropsAmidGets(t *testing.T) { // P12.2, P12.3
	seed := uint64(5)
	s, m := filled(t, shape{3, 4}, 4, &seed)
	drop(t, s, m, object(2))
	drop(t, s, m, object(0))
	for _, c := range []struct{ get, slot, drop int }{{20, 2, 1}, {2, 2, 20}, {21, 2, 3}, {22, 2, 2}, {0, 2, 0}, {23, 2, 21}} {
		if k := get(t, s, m, object(c.get), true); k != c.slot {
			t.Errorf("object %d is in slot %d, not %d", c.get, k, c.slot)
		}
		write(t, s, m, c.slot, samples.Bytes(3, &seed))
		hold(t, s, m)
		drop(t, s, m, object(c.drop))
		hold(t, s, m)
	}
}

func TestBytesOfASlotThatNobodyHas(t *testing.T) { // P12.2, P12.3
	seed := uint64(6)
	for _, c := range shapes() {
		for some := range c.n {
			s, m := filled(t, c, some, &seed)
			hold(t, s, m)
			k := get(t, s, m, object(20), true)
			if b := slot(t, s, k); k != some || !bytes.Equal(b, make([]byte, c.size)) {
				t.Errorf("a new object has slot %d, %v", k, b)
			}
			hold(t, s, m)
			write(t, s, m, k, samples.Bytes(c.size, &seed))
			drop(t, s, m, object(20))
			hold(t, s, m)
			// What is written behind the drop is gone once more.
			write(t, s, m, k, samples.Bytes(c.size, &seed))
			hold(t, s, m)
			get(t, s, m, object(21), true)
			hold(t, s, m)
		}
	}
}

func TestObjectsAreComparedAsAWhole(t *testing.T) { // P12.2, P12.3, P12.4
	var all []api.Key
	for _, id := range samples.Ends() {
		for _, gen := range samples.Ends() {
			all = append(all, api.Key{Id: id, Gen: gen})
		}
	}
	for i, a := range all {
		for j, b := range all {
			if i == j {
				continue
			}
			s, m := made(t, shape{1, 2})
			get(t, s, m, a, true)
			write(t, s, m, 0, []byte{7})
			get(t, s, m, b, false)
			drop(t, s, m, b)
			get(t, s, m, b, true)
			hold(t, s, m)
			write(t, s, m, 1, []byte{9})
			drop(t, s, m, a)
			get(t, s, m, a, false)
			hold(t, s, m)
		}
	}
}

// gens has sixteen objects of one number, or of one generation.
func gens(of func(x int) api.Key) []api.Key {
	var l []api.Key
	for _, x := range append(samples.Ends(), 3, 4, -3, -4) {
		l = append(l, of(x))
	}
	return l
}

func TestManyOfOneNumber(t *testing.T) { // P12.2, P12.3, P12.4
	seed := uint64(7)
	for _, x := range samples.Ends() {
		for _, keys := range [][]api.Key{
			gens(func(gen int) api.Key { return api.Key{Id: x, Gen: gen} }),
			gens(func(id int) api.Key { return api.Key{Id: id, Gen: x} }),
		} {
			s, m := made(t, shape{2, 16})
			for k, key := range keys {
				get(t, s, m, key, true)
				hold(t, s, m)
				write(t, s, m, k, samples.Bytes(2, &seed))
			}
			for _, k := range samples.Shuffled(16, &seed) {
				drop(t, s, m, keys[k])
				hold(t, s, m)
			}
		}
	}
}

func TestAnElderOnesBytes(t *testing.T) { // P12.4
	for _, c := range shapes() {
		elder, young, zeros := api.Key{Id: 5, Gen: 1}, api.Key{Id: 5, Gen: 2}, make([]byte, c.size)
		s, m := made(t, c)
		get(t, s, m, elder, true)
		write(t, s, m, 0, bytes.Repeat([]byte{0xEE}, c.size))
		if k, err := s.Get(young, false); k != 0 || err != api.ENOENT {
			t.Errorf("Get(%v, false), as %v is there: %d, %d", young, elder, k, err)
		}
		if c.n > 1 {
			if b := slot(t, s, get(t, s, m, young, true)); !bytes.Equal(b, zeros) {
				t.Errorf("%v begins with %v, beside %v", young, b, elder)
			}
			write(t, s, m, 1, bytes.Repeat([]byte{0xDD}, c.size))
			drop(t, s, m, young)
			hold(t, s, m)
		}
		drop(t, s, m, elder)
		if b := slot(t, s, get(t, s, m, young, true)); !bytes.Equal(b, zeros) {
			t.Errorf("%v begins with %v, behind %v", young, b, elder)
		}
		get(t, s, m, elder, false)
		drop(t, s, m, elder)
		hold(t, s, m)
	}
}

func TestSlotTellsTheBytesThemselves(t *testing.T) { // P12.3
	seed := uint64(8)
	for _, c := range shapes() {
		s, m := filled(t, c, (c.n+1)/2, &seed)
		for k := range c.n {
			b := slot(t, s, k)
			samples.TurnAll(b)
			samples.TurnAll(m.slots[k])
			hold(t, s, m)
			b = append(b, 0xEE, 0xEE)
			samples.TurnAll(b[:cap(b)])
			hold(t, s, m)
		}
	}
}

func TestSlotsToldAheadOfChanges(t *testing.T) { // P12.2, P12.3
	seed := uint64(9)
	for _, c := range shapes() {
		for x := range c.n {
			s, m := filled(t, c, c.n, &seed)
			var told [][]byte
			for k := range c.n {
				told = append(told, slot(t, s, k))
			}
			drop(t, s, m, object(x))
			holdTold(t, s, m, told)
			get(t, s, m, object(20), true)
			holdTold(t, s, m, told)
		}
	}
}

// holdTold holds slots that were told against those that there are, and writes to them.
func holdTold(t *testing.T, s *Local, m *kept, told [][]byte) {
	t.Helper()
	for k := range told {
		if !bytes.Equal(told[k], m.slots[k]) {
			t.Errorf("slot %d, told ahead: %v, not %v", k, told[k], m.slots[k])
		}
		samples.TurnAll(told[k])
		samples.TurnAll(m.slots[k])
		hold(t, s, m)
	}
}

func TestSlotOfNoNumber(t *testing.T) { // P12.3
	seed := uint64(10)
	for _, c := range shapes() {
		for _, some := range []int{0, c.n / 2, c.n} {
			s, m := filled(t, c, some, &seed)
			for _, k := range append(samples.Outside(0, c.n-1), c.n*c.size) {
				if b, ok := s.Slot(k); b != nil || ok {
					t.Errorf("Slot(%d) of %d slots: %v, %v", k, c.n, b, ok)
				}
			}
			hold(t, s, m)
		}
	}
}

func TestWhatIsToldIsNotKept(t *testing.T) { // P12.3
	seed := uint64(11)
	for _, c := range shapes() {
		for some := 0; some <= c.n; some++ {
			s, m := filled(t, c, some, &seed)
			keys, all := s.Keys(), s.Bytes()
			for i := range keys[:cap(keys)] {
				keys[:cap(keys)][i] = api.Key{Id: -9, Gen: -9}
			}
			samples.TurnAll(all[:cap(all)])
			hold(t, s, m)
			get(t, s, m, object(20), true)
			hold(t, s, m)
		}
	}
}

func TestWhatIsToldStays(t *testing.T) { // P12.3
	seed := uint64(12)
	for _, c := range shapes() {
		for some := 1; some <= c.n; some++ {
			s, m := filled(t, c, some, &seed)
			keys, all, was := s.Keys(), s.Bytes(), m.copied()
			drop(t, s, m, object(0))
			get(t, s, m, object(20), true)
			get(t, s, m, object(21), true)
			samples.TurnAll(slot(t, s, 0))
			samples.TurnAll(m.slots[0])
			hold(t, s, m)
			if !slices.Equal(keys, was.objects) || !bytes.Equal(all, slices.Concat(was.slots...)) {
				t.Errorf("told ahead: %v, %v, not %v", keys, all, was)
			}
		}
	}
}

// change does some of all that may be done to a storage.
func change(t *testing.T, s *Local, m *kept, x int, seed *uint64) {
	t.Helper()
	get(t, s, m, object(20+x), true)
	write(t, s, m, 0, samples.Bytes(m.size, seed))
	drop(t, s, m, object(x))
	get(t, s, m, object(x), true)
	drop(t, s, m, m.objects[0])
	write(t, s, m, m.n-1, samples.Bytes(m.size, seed))
}

func TestCopy(t *testing.T) { // P12.3
	seed := uint64(13)
	for _, c := range shapes() {
		for some := 0; some <= c.n; some++ {
			s, m := filled(t, c, some, &seed)
			ahead, aheadHas := s.Copy(), m.copied()
			change(t, s, m, 0, &seed)
			behind, behindHas := s.Copy(), m.copied()
			second, secondHas := ahead.Copy(), aheadHas.copied()
			all, has := []*Local{s, ahead, behind, second}, []*kept{m, aheadHas, behindHas, secondHas}
			for i := range all {
				for j := range all {
					hold(t, all[j], has[j])
				}
				change(t, all[i], has[i], i, &seed)
			}
			for j := range all {
				hold(t, all[j], has[j])
			}
		}
	}
}

func TestGetsOfCopies(t *testing.T) { // P12.3
	// Each gets an object of its own behind the same ones: none may write to another's list.
	seed := uint64(14)
	for some := range 16 {
		s, m := filled(t, shape{1, 16}, some, &seed)
		all, has := []*Local{s, s.Copy(), s.Copy()}, []*kept{m, m.copied(), m.copied()}
		for i := range all {
			get(t, all[i], has[i], object(20+i), true)
		}
		for i := range all {
			hold(t, all[i], has[i])
		}
	}
}

func TestStoragesShareNothing(t *testing.T) { // P12.1
	for _, c := range shapes() {
		a, aHas := made(t, c)
		b, bHas := made(t, c)
		for x := range c.n {
			get(t, a, aHas, object(x), true)
			write(t, a, aHas, x, bytes.Repeat([]byte{0xA5}, c.size))
		}
		hold(t, b, bHas)
		get(t, b, bHas, object(20), true)
		hold(t, a, aHas)
		hold(t, b, bHas)
		more, moreHas := made(t, c)
		hold(t, more, moreHas)
	}
}

func TestNilStorage(t *testing.T) { // P12.1, P12.2, P12.3
	var s *Local
	if s.Len() != 0 || len(s.Keys()) != 0 || len(s.Bytes()) != 0 || s.Copy() != nil {
		t.Errorf("nil: %d objects, %v, %v, %v", s.Len(), s.Keys(), s.Bytes(), s.Copy())
	}
	for _, key := range []api.Key{{}, {Id: 5, Gen: 1}, {Id: math.MinInt, Gen: math.MaxInt}} {
		for _, create := range []bool{true, false} {
			if k, err := s.Get(key, create); k != 0 || err != api.EINVAL {
				t.Errorf("Get(%v, %v) of nil: %d, %d", key, create, k, err)
			}
		}
		if err := s.Drop(key); err != api.EINVAL {
			t.Errorf("Drop(%v) of nil: %d", key, err)
		}
	}
	for _, k := range append(samples.Outside(0, 0), 0) {
		if b, ok := s.Slot(k); b != nil || ok {
			t.Errorf("Slot(%d) of nil: %v, %v", k, b, ok)
		}
	}
	if refused, _ := New(0, 0); refused.Len() != 0 || refused.Copy() != nil {
		t.Errorf("what New refused has %d objects", refused.Len())
	}
}

// goOn does each thing that may be done with three objects to copies of a storage, so many things one behind the other.
func goOn(t *testing.T, s *Local, m *kept, depth int) {
	t.Helper()
	hold(t, s, m)
	if depth == 0 {
		return
	}
	keys := []api.Key{{Id: 1, Gen: 1}, {Id: 1, Gen: 2}, {Id: 2, Gen: 1}}
	for what := range 3*len(keys) + m.n {
		c, has := s.Copy(), m.copied()
		switch key := keys[what%3]; what / 3 {
		case 0:
			get(t, c, has, key, true)
		case 1:
			get(t, c, has, key, false)
		case 2:
			drop(t, c, has, key)
		default:
			write(t, c, has, what-9, []byte{byte(depth)})
		}
		goOn(t, c, has, depth-1)
	}
	hold(t, s, m)
}

func TestAllShortScripts(t *testing.T) { // P12.1, P12.2, P12.3, P12.4
	for n := 1; n <= 3; n++ {
		s, m := made(t, shape{1, n})
		goOn(t, s, m, 4)
	}
}

// script has some storages, all of one shape, and what is kept of each.
type script struct {
	shape
	all  []*Local
	has  []*kept
	seed uint64
}

// drawObject draws one of few, so that most come again; some have one number.
func (s *script) drawObject() api.Key {
	return api.Key{Id: samples.Below(&s.seed, 3+s.n/2), Gen: samples.Below(&s.seed, 3)}
}

func (s *script) step(t *testing.T) {
	t.Helper()
	at, from := samples.Below(&s.seed, len(s.all)), samples.Below(&s.seed, len(s.all))
	switch samples.Below(&s.seed, 16) {
	case 0, 1, 2, 3, 4, 5, 6:
		get(t, s.all[at], s.has[at], s.drawObject(), true)
	case 7:
		get(t, s.all[at], s.has[at], s.drawObject(), false)
	case 8, 9, 10, 11:
		drop(t, s.all[at], s.has[at], s.drawObject())
	case 12, 13, 14:
		write(t, s.all[at], s.has[at], samples.Below(&s.seed, s.n), samples.Bytes(s.size, &s.seed))
	case 15:
		s.all[at], s.has[at] = s.all[from].Copy(), s.has[from].copied()
	}
}

func TestDrawnScripts(t *testing.T) { // P12.1, P12.2, P12.3, P12.4
	for i, c := range shapes() {
		s := &script{shape: c, seed: uint64(100 + i)}
		for range 3 {
			one, m := made(t, c)
			s.all, s.has = append(s.all, one), append(s.has, m)
		}
		for range 400 {
			s.step(t)
			for j := range s.all {
				hold(t, s.all[j], s.has[j])
			}
		}
	}
}
