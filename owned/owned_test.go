package owned

import (
	"bytes"
	"fmt"
	"math"
	"testing"

	"halberd/api"
	"halberd/samples"
)

// ofKind has the descriptions of shapes that are of one of some kinds.
func ofKind(some ...int) []api.MapDef {
	var l []api.MapDef
	for _, d := range shapes() {
		for _, kind := range some {
			if d.Kind == kind {
				l = append(l, d)
			}
		}
	}
	return l
}

// noSlots has arrays' keys of numbers that no slot of n has, whose low byte, or bytes, one may have.
func noSlots(n int) [][]byte {
	l := [][]byte{{byte(n), 0, 0, 0}, {byte(n + 1), 0, 0, 0}, {16, 0, 0, 0}, {17, 0, 0, 0}, {255, 0, 0, 0}, {255, 255, 255, 255}, {254, 255, 255, 255}, {0, 255, 255, 255}}
	for k := range n {
		for _, high := range []byte{1, 2, 16, 127, 128, 255} {
			l = append(l, []byte{byte(k), high, 0, 0}, []byte{byte(k), 0, high, 0}, []byte{byte(k), 0, 0, high}, []byte{byte(k), high, high, high})
		}
		if k > 0 {
			l = append(l, []byte{0, 0, 0, byte(k)}, []byte{0, 0, byte(k), 0}, []byte{0, byte(k), 0, 0})
		}
	}
	return l
}

func TestKeysOfAnArray(t *testing.T) { // P14.2
	seed := uint64(11)
	for n := 1; n <= api.MaxSlots; n++ {
		d := arrayOf(1+n%3, n)
		o, l := filled(t, &seed, 0, d)
		for k := range n {
			if got, ok := o.Lookup(0, keyOf(k)); got != k || !ok {
				t.Errorf("Lookup of slot %d of %d: %d, %v", k, n, got, ok)
			}
			if err := update(t, o, l, 0, keyOf(k), samples.Bytes(d.Value, &seed), uint64(k%2)*2); err != api.OK {
				t.Errorf("Update of slot %d of %d: %d", k, n, err)
			}
			hold(t, o, l)
		}
		for _, key := range noSlots(n) {
			if got, ok := o.Lookup(0, key); got != 0 || ok {
				t.Errorf("Lookup(%v) of %d slots: %d, %v", key, n, got, ok)
			}
			for flags := range uint64(3) {
				if err := o.Update(0, key, samples.Bytes(d.Value, &seed), flags); err != api.EINVAL {
					t.Errorf("Update(%v) of %d slots, flags %d: %d", key, n, flags, err)
				}
			}
		}
		hold(t, o, l)
	}
}

func TestUpdateOfAnArray(t *testing.T) { // P14.2
	there, absent := []byte{1, 0, 0, 0}, []byte{2, 0, 0, 0}
	for _, c := range []struct {
		key, value []byte
		flags      uint64
		err        api.Errno
	}{
		{there, []byte("xy"), 0, api.OK}, {there, []byte("xy"), 2, api.OK}, {there, []byte("xy"), 1, api.EEXIST},
		{absent, []byte("xy"), 0, api.EINVAL}, {absent, []byte("xy"), 1, api.EINVAL}, {absent, []byte("xy"), 2, api.EINVAL},
		{there, []byte("xy"), 3, api.EINVAL}, {there, []byte("xy"), math.MaxUint64, api.EINVAL}, {there, []byte("xy"), 1<<32 + 1, api.EINVAL},
		{there, []byte("x"), 0, api.EINVAL}, {there, []byte("xyz"), 0, api.EINVAL}, {there, nil, 0, api.EINVAL}, {there, []byte{}, 2, api.EINVAL},
		// What would tell EEXIST is refused ahead of that.
		{there, []byte("x"), 1, api.EINVAL}, {there, []byte("xyz"), 1, api.EINVAL}, {there[:3], []byte("xy"), 1, api.EINVAL},
		{there[:3], []byte("xy"), 0, api.EINVAL}, {append(bytes.Clone(there), 0), []byte("xy"), 0, api.EINVAL}, {nil, []byte("xy"), 0, api.EINVAL}, {there[:1], []byte("xy"), 0, api.EINVAL},
	} {
		o, l := made(t, arrayOf(2, 2))
		write(t, o, l, 0, 1, []byte("ab"))
		if err := o.Update(0, c.key, c.value, c.flags); err != c.err {
			t.Errorf("Update(%v, %q, %d): %d, not %d", c.key, c.value, c.flags, err, c.err)
		}
		l.update(0, c.key, c.value, c.flags)
		hold(t, o, l)
	}
}

// someKeys has keys that a map may have, there or not.
func someKeys(d api.MapDef) [][]byte {
	var l [][]byte
	for x := range 18 {
		if d.Kind == api.MapArray {
			l = append(l, keyOf(x))
		} else {
			l = append(l, key(d, x))
		}
	}
	return l
}

func TestOtherLengthsAndFlags(t *testing.T) { // P14.2
	seed := uint64(12)
	for _, d := range ofKind(api.MapArray, api.MapHash) {
		o, l := filled(t, &seed, 1, d)
		for _, key := range someKeys(d)[:3] {
			value := samples.Bytes(d.Value, &seed)
			for _, other := range samples.OtherLengths(key) {
				if k, ok := o.Lookup(0, other); k != 0 || ok {
					t.Fatalf("Lookup(%v) of %v: %d, %v", other, d, k, ok)
				}
				for flags := range uint64(3) {
					update(t, o, l, 0, other, value, flags)
				}
				remove(t, o, l, 0, other)
			}
			for _, other := range samples.OtherLengths(value) {
				for flags := range uint64(3) {
					update(t, o, l, 0, key, other, flags)
				}
			}
			for _, flags := range samples.NoFlags() {
				update(t, o, l, 0, key, value, flags)
			}
		}
		hold(t, o, l)
	}
}

func TestUpdateOfAHash(t *testing.T) { // P14.2
	old, other, more := []byte("k0"), []byte("k1"), []byte("k2")
	for _, c := range []struct {
		has   [][]byte
		key   []byte
		flags uint64
		err   api.Errno
		bytes string
	}{
		{nil, old, 0, api.OK, "\x02\x00k0yy\x00\x00"}, {nil, old, 1, api.OK, "\x02\x00k0yy\x00\x00"}, {nil, old, 2, api.ENOENT, "\x02\x00\x00\x00\x00"},
		{[][]byte{other}, old, 0, api.OK, "\x02\x00k1\x01k0xxyy"}, {[][]byte{other}, old, 1, api.OK, "\x02\x00k1\x01k0xxyy"}, {[][]byte{other}, old, 2, api.ENOENT, "\x02\x00k1xx\x00\x00"},
		{[][]byte{old}, old, 0, api.OK, "\x02\x00k0yy\x00\x00"}, {[][]byte{old}, old, 1, api.EEXIST, "\x02\x00k0xx\x00\x00"}, {[][]byte{old}, old, 2, api.OK, "\x02\x00k0yy\x00\x00"},
		{[][]byte{other, old}, more, 0, api.ENOSPC, "\x02\x00k1\x01k0xxxx"}, {[][]byte{other, old}, more, 1, api.ENOSPC, "\x02\x00k1\x01k0xxxx"}, {[][]byte{other, old}, more, 2, api.ENOENT, "\x02\x00k1\x01k0xxxx"},
		{[][]byte{other, old}, old, 1, api.EEXIST, "\x02\x00k1\x01k0xxxx"}, {[][]byte{other, old}, old, 2, api.OK, "\x02\x00k1\x01k0xxyy"}, {[][]byte{other, old}, old, 3, api.EINVAL, "\x02\x00k1\x01k0xxxx"},
	} {
		o, l := made(t, hashOf(2, 2, 2))
		for _, key := range c.has {
			update(t, o, l, 0, key, []byte("xx"), 0)
		}
		if err := o.Update(0, c.key, []byte("yy"), c.flags); err != c.err {
			t.Errorf("Update(%s, flags %d) into %s: %d, not %d", c.key, c.flags, c.has, err, c.err)
		}
		l.update(0, c.key, []byte("yy"), c.flags)
		hold(t, o, l)
		if got := string(o.Bytes()); got != c.bytes {
			t.Errorf("then Bytes(): %q, not %q", got, c.bytes)
		}
	}
}

func TestDelete(t *testing.T) { // P14.2
	seed := uint64(13)
	for _, d := range ofKind(api.MapHash) {
		o, l := filled(t, &seed, 1, d)
		for _, x := range samples.Shuffled(17, &seed) {
			remove(t, o, l, 0, key(d, x))
			hold(t, o, l)
			if err := o.Delete(0, key(d, x)); err != api.ENOENT {
				t.Errorf("once more Delete(%v): %d", key(d, x), err)
			}
			lookup(t, o, l, 0, key(d, x))
		}
		if k, ok := o.Lookup(0, key(d, 0)); k != 0 || ok {
			t.Errorf("behind all: %d, %v", k, ok)
		}
	}
}

func TestAFullHash(t *testing.T) { // P14.2
	seed := uint64(14)
	for _, d := range ofKind(api.MapHash) {
		for x := range d.Max {
			o, l := filled(t, &seed, 0, d)
			more, value := key(d, 20), samples.Bytes(d.Value, &seed)
			if err := update(t, o, l, 0, more, value, 0); err != api.ENOSPC {
				t.Errorf("one more of %v: %d", d, err)
			}
			hold(t, o, l)
			remove(t, o, l, 0, key(d, x))
			if err := update(t, o, l, 0, more, value, 1); err != api.OK {
				t.Errorf("behind one that went, of %v: %d", d, err)
			}
			if k, ok := o.Lookup(0, more); k != x || !ok {
				t.Errorf("behind one that went, of %v: slot %d, %v, not %d", d, k, ok, x)
			}
			hold(t, o, l)
			if err := update(t, o, l, 0, key(d, x), value, 0); err != api.ENOSPC {
				t.Errorf("one more of %v: %d", d, err)
			}
			hold(t, o, l)
		}
	}
}

func TestAFullStorage(t *testing.T) { // P14.3
	seed := uint64(15)
	for _, d := range ofKind(api.MapInode, api.MapTask) {
		for x := range d.Max {
			o, l := filled(t, &seed, 0, d)
			if k, err := get(t, o, l, 0, object(20), true); k != 0 || err != api.ENOSPC {
				t.Errorf("one more of %v: %d, %d", d, k, err)
			}
			if k, err := get(t, o, l, 0, object(20), false); k != 0 || err != api.ENOENT {
				t.Errorf("one more of %v, not to be made: %d, %d", d, k, err)
			}
			hold(t, o, l)
			if err := drop(t, o, l, 0, object(x)); err != api.OK {
				t.Errorf("Drop of %v: %d", d, err)
			}
			hold(t, o, l)
			if k, err := get(t, o, l, 0, object(20), true); k != d.Max-1 || err != api.OK {
				t.Errorf("behind one that went, of %v: %d, %d", d, k, err)
			}
			if b := slot(t, o, 0, d.Max-1); !bytes.Equal(b, make([]byte, d.Value)) {
				t.Errorf("a new object's bytes: %v", b)
			}
			hold(t, o, l)
			get(t, o, l, 0, object(x), true)
			hold(t, o, l)
		}
	}
}

func TestGet(t *testing.T) { // P14.3
	a, b, c := api.Key{Id: 2, Gen: 1}, api.Key{Id: 2, Gen: 2}, api.Key{Id: 1, Gen: 2}
	for _, kind := range []int{api.MapInode, api.MapTask} {
		for _, x := range []struct {
			has    []api.Key
			key    api.Key
			create bool
			k      int
			err    api.Errno
			drop   api.Errno
		}{
			{nil, a, true, 0, api.OK, api.OK}, {nil, a, false, 0, api.ENOENT, api.ENOENT},
			{[]api.Key{a}, a, true, 0, api.OK, api.OK}, {[]api.Key{a}, a, false, 0, api.OK, api.OK},
			// Others by their number alone, by their generation alone, by both.
			{[]api.Key{b}, c, true, 1, api.OK, api.OK}, {[]api.Key{b}, c, false, 0, api.ENOENT, api.ENOENT},
			{[]api.Key{a}, b, true, 1, api.OK, api.OK}, {[]api.Key{a}, b, false, 0, api.ENOENT, api.ENOENT},
			{[]api.Key{b}, a, true, 1, api.OK, api.OK}, {[]api.Key{b}, a, false, 0, api.ENOENT, api.ENOENT},
			{[]api.Key{a}, c, true, 1, api.OK, api.OK}, {[]api.Key{a}, c, false, 0, api.ENOENT, api.ENOENT},
			{[]api.Key{a, b}, b, true, 1, api.OK, api.OK}, {[]api.Key{b, a}, b, false, 0, api.OK, api.OK},
			{[]api.Key{a, b}, c, true, 0, api.ENOSPC, api.ENOENT}, {[]api.Key{a, b}, c, false, 0, api.ENOENT, api.ENOENT},
		} {
			o, l := made(t, aRing(), api.MapDef{Kind: kind, Value: 2, Max: 2})
			for k, key := range x.has {
				get(t, o, l, 1, key, true)
				write(t, o, l, 1, k, []byte{byte(k + 1), 9})
			}
			if k, err := o.Get(1, x.key, x.create); k != x.k || err != x.err {
				t.Errorf("Get(%v, %v) of %v: %d, %d, not %d, %d", x.key, x.create, x.has, k, err, x.k, x.err)
			}
			l.get(1, x.key, x.create)
			hold(t, o, l)
			if err := o.Drop(1, x.key); err != x.drop {
				t.Errorf("then Drop(%v): %d, not %d", x.key, err, x.drop)
			}
			l.drop(1, x.key)
			hold(t, o, l)
		}
	}
}

func TestObjectsThatAreAlmostTheSame(t *testing.T) { // P14.3
	for _, kind := range []int{api.MapInode, api.MapTask} {
		for _, id := range samples.Ends() {
			for _, gen := range samples.Ends() {
				key := api.Key{Id: id, Gen: gen}
				o, l := made(t, api.MapDef{Kind: kind, Value: 1, Max: 16})
				get(t, o, l, 0, key, true)
				write(t, o, l, 0, 0, []byte{7})
				for _, other := range samples.Beside(key) {
					get(t, o, l, 0, other, false)
					drop(t, o, l, 0, api.Key{Id: other.Id, Gen: other.Gen - 5})
					get(t, o, l, 0, other, true)
				}
				hold(t, o, l)
				for _, other := range samples.Beside(key) {
					drop(t, o, l, 0, other)
				}
				hold(t, o, l)
			}
		}
	}
}

// numbers has those of no map of n: near, and far off.
func numbers(n int) []int {
	return append(samples.Outside(0, n-1), math.MinInt, math.MaxInt)
}

// nothingByKeys holds that a map is neither looked up nor updated nor deleted.
func nothingByKeys(t *testing.T, o *Owned, m int) {
	t.Helper()
	for _, key := range [][]byte{nil, {}, {0}, {0, 0, 0, 0}, {1, 0, 0, 0}, {0xA0, 0xA0, 0, 0xA0}, make([]byte, 8), make([]byte, 300)} {
		if k, ok := o.Lookup(m, key); k != 0 || ok {
			t.Fatalf("Lookup(%d, %v): %d, %v", m, key, k, ok)
		}
		if err := o.Delete(m, key); err != api.EINVAL {
			t.Fatalf("Delete(%d, %v): %d", m, key, err)
		}
		for _, value := range [][]byte{nil, {}, {5}, {5, 6}, key, make([]byte, 32)} {
			for _, flags := range []uint64{0, 1, 2, 3, math.MaxUint64} {
				if err := o.Update(m, key, value, flags); err != api.EINVAL {
					t.Fatalf("Update(%d, %v, %v, %d): %d", m, key, value, flags, err)
				}
			}
		}
	}
}

// nothingByObjects holds that a map is neither got nor dropped.
func nothingByObjects(t *testing.T, o *Owned, m int) {
	t.Helper()
	for _, key := range []api.Key{{}, {Id: 1, Gen: 1}, object(0), object(1), {Id: math.MinInt, Gen: math.MaxInt}} {
		for _, create := range []bool{true, false} {
			if k, err := o.Get(m, key, create); k != 0 || err != api.EINVAL {
				t.Fatalf("Get(%d, %v, %v): %d, %d", m, key, create, k, err)
			}
		}
		if err := o.Drop(m, key); err != api.EINVAL {
			t.Fatalf("Drop(%d, %v): %d", m, key, err)
		}
	}
}

// nothingAt holds that a number is no map's.
func nothingAt(t *testing.T, o *Owned, m int) {
	t.Helper()
	nothingByKeys(t, o, m)
	nothingByObjects(t, o, m)
	if d, ok := o.Def(m); d != (api.MapDef{}) || ok {
		t.Fatalf("Def(%d): %v, %v", m, d, ok)
	}
	for _, k := range append(samples.Outside(0, 0), 0) {
		if b, ok := o.Slot(m, k); b != nil || ok {
			t.Fatalf("Slot(%d, %d): %v, %v", m, k, b, ok)
		}
	}
}

func TestCallsOfTheWrongKind(t *testing.T) { // P14.2, P14.3
	seed := uint64(16)
	for n := 1; n <= 4; n++ {
		for _, of := range lists(n) {
			var defs []api.MapDef
			for _, kind := range of {
				defs = append(defs, drawDef(kind, &seed))
			}
			o, l := filled(t, &seed, 1, defs...)
			for m, kind := range of {
				switch kind {
				case api.MapInode, api.MapTask:
					nothingByKeys(t, o, m)
				case api.MapRing:
					nothingByKeys(t, o, m)
					nothingByObjects(t, o, m)
				default:
					nothingByObjects(t, o, m)
				}
			}
			hold(t, o, l)
		}
	}
}

func TestDeleteOfAnArray(t *testing.T) { // P14.2
	seed := uint64(17)
	for _, d := range ofKind(api.MapArray) {
		o, l := filled(t, &seed, 0, d)
		for _, key := range append(someKeys(d), nil, []byte{0}, make([]byte, 5)) {
			if err := o.Delete(0, key); err != api.EINVAL {
				t.Errorf("Delete(%v) of an array: %d", key, err)
			}
		}
		hold(t, o, l)
	}
}

func TestCallsOfNoMap(t *testing.T) { // P14.1, P14.2, P14.3, P14.4
	seed := uint64(18)
	for n := range 5 {
		for range 20 {
			var defs []api.MapDef
			for range n {
				defs = append(defs, drawDef(1+samples.Below(&seed, 5), &seed))
			}
			o, l := filled(t, &seed, 1, defs...)
			for _, m := range numbers(n) {
				nothingAt(t, o, m)
			}
			hold(t, o, l)
		}
	}
}

func TestNilMaps(t *testing.T) { // P14.1, P14.2, P14.3, P14.4
	refused, _ := New([]api.MapDef{{}})
	for _, o := range []*Owned{nil, refused} {
		if b := o.Bytes(); len(b) != 0 {
			t.Errorf("Bytes() of nil: %v", b)
		}
		if c := o.Copy(); c != nil {
			t.Errorf("Copy() of nil: %v", c)
		}
		for _, m := range append(numbers(0), 0, 1, 2, 3, 4) {
			nothingAt(t, o, m)
		}
	}
}

// answer is what a call told of a kind of map.
type answer struct {
	call string
	kind int
	err  api.Errno
}

// script has some maps, all of the same descriptions, and what is kept of each.
type script struct {
	defs []api.MapDef
	all  []*Owned
	has  []kept
	seen map[answer]int
	seed uint64
}

// drawMap draws a map's number; some are of none.
func (s *script) drawMap() int {
	if len(s.defs) == 0 || samples.Below(&s.seed, 40) == 0 {
		return samples.Below(&s.seed, 2)*(len(s.defs)+1) - 1
	}
	return samples.Below(&s.seed, len(s.defs))
}

// drawKey draws one of few, so that most come again; some are of another length, or another kind.
func (s *script) drawKey(d api.MapDef) []byte {
	x := samples.Below(&s.seed, d.Max+2)
	b := keyOf(x)
	if d.Key > 0 && d.Kind == api.MapHash {
		b = key(d, x)
	}
	switch samples.Below(&s.seed, 40) {
	case 0:
		return b[1:]
	case 1:
		return append(b, 0)
	case 2:
		b[len(b)-1]++
	}
	return b
}

func (s *script) drawValue(d api.MapDef) []byte {
	switch b := samples.Bytes(d.Value+1, &s.seed); samples.Below(&s.seed, 40) {
	case 0:
		return b
	case 1:
		return b[:max(0, d.Value-1)]
	default:
		return b[:d.Value]
	}
}

func (s *script) drawObject(d api.MapDef) api.Key {
	return api.Key{Id: samples.Below(&s.seed, 3+d.Max/2), Gen: samples.Below(&s.seed, 3)}
}

// step does one thing to one of them.
func (s *script) step(t *testing.T) {
	t.Helper()
	at, from, m := samples.Below(&s.seed, len(s.all)), samples.Below(&s.seed, len(s.all)), s.drawMap()
	var d api.MapDef
	if m >= 0 && m < len(s.defs) {
		d = s.defs[m]
	}
	o, l := s.all[at], s.has[at]
	what, err := "", api.OK
	switch samples.Below(&s.seed, 12) {
	case 0, 1, 2:
		what, err = "update", update(t, o, l, m, s.drawKey(d), s.drawValue(d), uint64(samples.Below(&s.seed, 25)*2/15))
	case 3, 4:
		what, err = "delete", remove(t, o, l, m, s.drawKey(d))
	case 5, 6, 7:
		what = "get"
		_, err = get(t, o, l, m, s.drawObject(d), samples.Below(&s.seed, 4) > 0)
	case 8:
		what, err = "drop", drop(t, o, l, m, s.drawObject(d))
	case 9:
		lookup(t, o, l, m, s.drawKey(d))
	case 10:
		if d.Max > 0 {
			write(t, o, l, m, samples.Below(&s.seed, d.Max), samples.Bytes(d.Value, &s.seed))
		}
	case 11:
		s.all[at], s.has[at] = s.all[from].Copy(), s.has[from].copied()
	}
	if what != "" {
		s.seen[answer{what, d.Kind, err}]++
	}
}

func TestAllKindsBesideEachOther(t *testing.T) { // P14.1, P14.2, P14.3, P14.4, P14.5
	seed, seen := uint64(19), map[answer]int{}
	for n := range 5 {
		for _, of := range lists(n) {
			s := &script{seen: seen, seed: samples.Draw(&seed)}
			for _, kind := range of {
				s.defs = append(s.defs, drawDef(kind, &seed))
			}
			for range 2 {
				o, l := made(t, s.defs...)
				s.all, s.has = append(s.all, o), append(s.has, l)
			}
			for range 60 {
				s.step(t)
				for i := range s.all {
					hold(t, s.all[i], s.has[i])
				}
			}
		}
	}
	holdSeen(t, seen)
}

// holdSeen holds that each answer that may be was drawn several times.
func holdSeen(t *testing.T, seen map[answer]int) {
	t.Helper()
	want := map[answer]bool{}
	for kind := range 6 {
		for _, call := range []string{"update", "delete", "get", "drop"} {
			want[answer{call, kind, api.EINVAL}] = true
		}
	}
	for _, kind := range []int{api.MapInode, api.MapTask} {
		for _, err := range []api.Errno{api.OK, api.ENOENT, api.ENOSPC} {
			want[answer{"get", kind, err}] = true
		}
		want[answer{"drop", kind, api.OK}], want[answer{"drop", kind, api.ENOENT}] = true, true
		delete(want, answer{"get", kind, api.EINVAL})
		delete(want, answer{"drop", kind, api.EINVAL})
	}
	want[answer{"update", api.MapArray, api.OK}], want[answer{"update", api.MapArray, api.EEXIST}] = true, true
	for _, err := range []api.Errno{api.OK, api.ENOENT, api.EEXIST, api.ENOSPC} {
		want[answer{"update", api.MapHash, err}] = true
	}
	want[answer{"delete", api.MapHash, api.OK}], want[answer{"delete", api.MapHash, api.ENOENT}] = true, true
	for a := range want {
		if seen[a] < 10 {
			t.Errorf("%v: %d times", a, seen[a])
		}
	}
	for a, times := range seen {
		if !want[a] {
			t.Errorf("%s: %d times", fmt.Sprint(a), times)
		}
	}
}
