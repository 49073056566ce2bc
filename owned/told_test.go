package owned

import (
	"bytes"
	"slices"
	"testing"

	"halberd/api"
	"halberd/samples"
)

// deed is one that is done to maps ahead of looking at them.
type deed func(t *testing.T, o *Owned, l kept)

func put(m int, key, value string) deed {
	return func(t *testing.T, o *Owned, l kept) { update(t, o, l, m, []byte(key), []byte(value), 0) }
}

func gone(m int, key string) deed {
	return func(t *testing.T, o *Owned, l kept) { remove(t, o, l, m, []byte(key)) }
}

func got(m, id, gen int, value string) deed {
	return func(t *testing.T, o *Owned, l kept) {
		k, _ := get(t, o, l, m, api.Key{Id: id, Gen: gen}, true)
		write(t, o, l, m, k, []byte(value))
	}
}

func dropped(m, id, gen int) deed {
	return func(t *testing.T, o *Owned, l kept) { drop(t, o, l, m, api.Key{Id: id, Gen: gen}) }
}

func TestBytes(t *testing.T) { // P14.4
	hashes, inodes, tasks := hashOf(2, 1, 3), inodesOf(1, 3), tasksOf(2, 2)
	for i, c := range []struct {
		defs  []api.MapDef
		deeds []deed
		want  string
	}{
		{nil, nil, ""},
		{[]api.MapDef{aRing()}, nil, "\x05"},
		{[]api.MapDef{aRing(), aRing(), aRing(), aRing()}, nil, "\x05\x05\x05\x05"},
		{[]api.MapDef{arrayOf(2, 2)}, nil, "\x01\x00\x00\x00\x00"},
		{[]api.MapDef{arrayOf(2, 2)}, []deed{put(0, "\x01\x00\x00\x00", "xy")}, "\x01\x00\x00xy"},
		{[]api.MapDef{arrayOf(1, 3)}, []deed{put(0, "\x02\x00\x00\x00", "c"), put(0, "\x00\x00\x00\x00", "a")}, "\x01a\x00c"},
		{[]api.MapDef{hashes}, nil, "\x02\x00\x00\x00"},
		{[]api.MapDef{hashes}, []deed{put(0, "zz", "a")}, "\x02\x00zza\x00\x00"},
		{[]api.MapDef{hashes}, []deed{put(0, "zz", "a"), put(0, "aa", "b"), put(0, "mm", "c")}, "\x02\x00zz\x01aa\x02mmabc"},
		// A free slot has its bytes yet, but no key.
		{[]api.MapDef{hashes}, []deed{put(0, "zz", "a"), put(0, "aa", "b"), put(0, "mm", "c"), gone(0, "aa")}, "\x02\x00zz\x02mmabc"},
		{[]api.MapDef{hashes}, []deed{put(0, "zz", "a"), put(0, "aa", "b"), put(0, "mm", "c"), gone(0, "zz")}, "\x02\x01aa\x02mmabc"},
		{[]api.MapDef{hashes}, []deed{put(0, "zz", "a"), put(0, "aa", "b"), gone(0, "zz"), put(0, "bb", "c")}, "\x02\x00bb\x01aacb\x00"},
		{[]api.MapDef{hashes}, []deed{put(0, "zz", "a"), put(0, "aa", "b"), gone(0, "zz"), gone(0, "aa")}, "\x02ab\x00"},
		{[]api.MapDef{inodes}, nil, "\x03\x00\x00\x00"},
		{[]api.MapDef{inodes}, []deed{got(0, 5, 1, "a")}, "\x03\x05\x01a\x00\x00"},
		{[]api.MapDef{inodes}, []deed{got(0, 9, 1, "a"), got(0, 5, 2, "b"), got(0, 5, 1, "c")}, "\x03\x09\x01\x05\x02\x05\x01abc"},
		{[]api.MapDef{inodes}, []deed{got(0, 9, 1, "a"), got(0, 5, 2, "b"), got(0, 5, 1, "c"), dropped(0, 9, 1)}, "\x03\x05\x02\x05\x01bc\x00"},
		{[]api.MapDef{inodes}, []deed{got(0, 256+7, 512+8, "a"), got(0, -1, -2, "b"), got(0, 1<<32+3, -1<<32+4, "c")}, "\x03\x07\x08\xFF\xFE\x03\x04abc"},
		{[]api.MapDef{tasks}, []deed{got(0, 255, -255, "ab"), got(0, -256, 256, "cd")}, "\x04\xFF\x01\x00\x00abcd"},
		{
			[]api.MapDef{tasks, aRing(), hashes, arrayOf(1, 1)},
			[]deed{put(2, "ab", "x"), got(0, 2, 1, "yy"), put(3, "\x00\x00\x00\x00", "z")},
			"\x04\x02\x01yy\x00\x00\x05\x02\x00abx\x00\x00\x01z",
		},
		{
			[]api.MapDef{aRing(), hashOf(1, 1, 1), inodesOf(1, 1), aRing()},
			[]deed{put(1, "k", "v"), got(2, 3, 4, "w")},
			"\x05\x02\x00kv\x03\x03\x04w\x05",
		},
	} {
		o, l := made(t, c.defs...)
		for _, d := range c.deeds {
			d(t, o, l)
		}
		if told := string(o.Bytes()); told != c.want {
			t.Errorf("%d: Bytes(): %q, not %q", i, told, c.want)
		}
		hold(t, o, l)
	}
}

func TestLowBytesOfAllObjects(t *testing.T) { // P14.4
	for x := -300; x <= 600; x++ {
		o, l := made(t, tasksOf(1, 2))
		get(t, o, l, 0, api.Key{Id: x, Gen: 7}, true)
		get(t, o, l, 0, api.Key{Id: 7, Gen: x - 5}, true)
		low := func(n int) byte { return byte((n + 1024) % 256) }
		if told, want := o.Bytes(), []byte{4, low(x), 7, 7, low(x - 5), 0, 0}; !bytes.Equal(told, want) {
			t.Errorf("of number %d, generation %d: %v, not %v", x, x-5, told, want)
		}
	}
}

// besides has lists of two to four descriptions, of which each kind stands beside each, also itself.
func besides(seed *uint64) [][]api.MapDef {
	var all [][]api.MapDef
	for n := 2; n <= 4; n++ {
		for _, of := range lists(n) {
			var l []api.MapDef
			for _, kind := range of {
				l = append(l, drawDef(kind, seed))
			}
			all = append(all, l)
		}
	}
	return all
}

func TestSlotTellsTheBytesThemselves(t *testing.T) { // P14.4, P14.5
	seed := uint64(31)
	for _, defs := range besides(&seed) {
		o, l := filled(t, &seed, 1, defs...)
		for m, d := range defs {
			if d.Max == 0 {
				continue
			}
			k := samples.Below(&seed, d.Max)
			b := slot(t, o, m, k)
			samples.TurnAll(b)
			samples.TurnAll(l[m].slots[k])
			hold(t, o, l)
			b = append(b, 0xEE, 0xEE)
			samples.TurnAll(b[:cap(b)])
			hold(t, o, l)
		}
	}
}

func TestSlotOfNoNumber(t *testing.T) { // P14.4
	seed := uint64(32)
	for _, d := range shapes() {
		for _, left := range []int{0, 1, 16} {
			o, l := filled(t, &seed, left, arrayOf(32, 16), d, hashOf(8, 32, 16))
			for _, k := range append(samples.Outside(0, d.Max-1), d.Max*d.Value+d.Max) {
				if b, ok := o.Slot(1, k); b != nil || ok {
					t.Errorf("Slot(1, %d) of %v: %v, %v", k, d, b, ok)
				}
			}
			hold(t, o, l)
		}
	}
}

func TestSlotsToldAheadOfCalls(t *testing.T) { // P14.4
	seed := uint64(33)
	for _, d := range shapes() {
		o, l := filled(t, &seed, 0, d, d)
		var told [][]byte
		for k := range d.Max {
			told = append(told, slot(t, o, 0, k))
		}
		change(t, o, l, 0, &seed)
		for k := range told {
			if !bytes.Equal(told[k], l[0].slots[k]) {
				t.Errorf("slot %d of %v, told ahead: %v, not %v", k, d, told[k], l[0].slots[k])
			}
			samples.TurnAll(told[k])
			samples.TurnAll(l[0].slots[k])
			hold(t, o, l)
		}
	}
}

func TestWhatIsToldIsNotKept(t *testing.T) { // P14.4
	seed := uint64(34)
	for _, defs := range besides(&seed) {
		o, l := filled(t, &seed, 1, defs...)
		first, second := o.Bytes(), o.Bytes()
		samples.TurnAll(first[:cap(first)])
		if !bytes.Equal(second, l.bytes()) {
			t.Errorf("another telling: %v, not %v", second, l.bytes())
		}
		hold(t, o, l)
		was := l.bytes()
		for m := range defs {
			change(t, o, l, m, &seed)
		}
		if !bytes.Equal(second, was) {
			t.Errorf("told ahead of changes: %v, not %v", second, was)
		}
	}
}

// spared tells the same bytes with some behind them, within its room, which are told with them, too.
func spared(b []byte) ([]byte, []byte) {
	all := append(bytes.Clone(b), 0xE1, 0xE2, 0xE3)
	return all[:len(b)], all
}

func TestWhatIsHandedInIsNeitherChangedNorKept(t *testing.T) { // P14.2
	seed := uint64(35)
	for _, d := range ofKind(api.MapArray, api.MapHash) {
		o, l := filled(t, &seed, 2, d)
		for _, b := range someKeys(d) {
			for flags := range uint64(4) {
				key, allKey := spared(b)
				value, allValue := spared(samples.Bytes(d.Value, &seed))
				keyWas, valueWas := bytes.Clone(allKey), bytes.Clone(allValue)
				update(t, o, l, 0, key, value, flags)
				lookup(t, o, l, 0, key)
				if flags == 3 {
					remove(t, o, l, 0, key)
				}
				if !bytes.Equal(allKey, keyWas) || !bytes.Equal(allValue, valueWas) {
					t.Errorf("what is handed in is %v, %v, was %v, %v", allKey, allValue, keyWas, valueWas)
				}
				samples.TurnAll(allKey)
				samples.TurnAll(allValue)
				hold(t, o, l)
			}
		}
	}
}

func TestWhatIsHandedInIsOfTheSlots(t *testing.T) { // P14.2
	o, l := made(t, arrayOf(4, 3), hashOf(4, 4, 2))
	for k := range 3 {
		write(t, o, l, 0, k, keyOf(2-k))
	}
	hold(t, o, l)
	// Slot 0 has the key of slot 2, to which the value is written that slot 1 has.
	l.update(0, keyOf(2), keyOf(1), 0)
	if err := o.Update(0, slot(t, o, 0, 0), slot(t, o, 0, 1), 0); err != api.OK {
		t.Errorf("Update of a key in slot 0: %d", err)
	}
	hold(t, o, l)
	// Slot 1 has its own key.
	l.update(0, keyOf(1), keyOf(2), 0)
	if err := o.Update(0, slot(t, o, 0, 1), slot(t, o, 0, 0), 0); err != api.OK {
		t.Errorf("Update of a key in slot 1: %d", err)
	}
	hold(t, o, l)
	l.update(1, keyOf(2), keyOf(1), 0)
	if err := o.Update(1, slot(t, o, 0, 0), slot(t, o, 0, 2), 0); err != api.OK {
		t.Errorf("Update of a key in another map's slot: %d", err)
	}
	hold(t, o, l)
	write(t, o, l, 0, 0, []byte("ab"))
	write(t, o, l, 0, 2, []byte("cd"))
	hold(t, o, l)
}

// change does some of all that may be done to a map.
func change(t *testing.T, o *Owned, l kept, m int, seed *uint64) {
	t.Helper()
	d := l[m].def
	switch d.Kind {
	case api.MapArray:
		update(t, o, l, m, keyOf(d.Max-1), samples.Bytes(d.Value, seed), 2)
	case api.MapHash:
		update(t, o, l, m, key(d, 40+samples.Below(seed, 4)), samples.Bytes(d.Value, seed), 0)
		remove(t, o, l, m, key(d, 0))
		update(t, o, l, m, key(d, 1), samples.Bytes(d.Value, seed), 0)
		update(t, o, l, m, key(d, 50+samples.Below(seed, 4)), samples.Bytes(d.Value, seed), 1)
	case api.MapInode, api.MapTask:
		get(t, o, l, m, object(20+samples.Below(seed, 4)), true)
		drop(t, o, l, m, object(0))
		get(t, o, l, m, object(24+samples.Below(seed, 4)), true)
	}
	if d.Max > 0 {
		write(t, o, l, m, samples.Below(seed, d.Max), samples.Bytes(d.Value, seed))
		write(t, o, l, m, d.Max-1, samples.Bytes(d.Value, seed))
	}
}

func TestMapsOfOneDescriptionShareNothing(t *testing.T) { // P14.5
	seed := uint64(36)
	for _, d := range shapes() {
		for n := 2; n <= 4; n++ {
			for _, left := range []int{0, 1, 16} {
				o, l := filled(t, &seed, left, slices.Repeat([]api.MapDef{d}, n)...)
				for _, m := range samples.Shuffled(n, &seed) {
					was := l.copied()
					change(t, o, l, m, &seed)
					hold(t, o, l)
					for other := range n {
						if other != m && !bytes.Equal(kept{l[other]}.bytes(), kept{was[other]}.bytes()) {
							t.Fatalf("a change of map %d turned map %d", m, other)
						}
					}
				}
			}
		}
	}
}

func TestMapsBesideEachOtherShareNothing(t *testing.T) { // P14.5
	seed := uint64(37)
	for _, defs := range besides(&seed) {
		o, l := filled(t, &seed, 1, defs...)
		for _, m := range samples.Shuffled(len(defs), &seed) {
			change(t, o, l, m, &seed)
			hold(t, o, l)
		}
	}
}

func TestProgramsShareNothing(t *testing.T) { // P14.1, P14.5
	seed := uint64(38)
	for _, defs := range besides(&seed) {
		a, aHas := made(t, defs...)
		b, bHas := made(t, defs...)
		for m := range defs {
			fill(t, a, aHas, m, 16, &seed)
		}
		hold(t, b, bHas)
		for m := range defs {
			change(t, b, bHas, m, &seed)
		}
		hold(t, a, aHas)
		hold(t, b, bHas)
		c, cHas := made(t, defs...)
		hold(t, c, cHas)
	}
}

// holdCopies changes each of some maps in turn, and holds all of them.
func holdCopies(t *testing.T, all []*Owned, has []kept, seed *uint64) {
	t.Helper()
	for _, i := range samples.Shuffled(len(all), seed) {
		for m := range has[i] {
			change(t, all[i], has[i], m, seed)
		}
		for j := range all {
			hold(t, all[j], has[j])
		}
	}
}

func TestCopy(t *testing.T) { // P14.4, P14.5
	seed := uint64(39)
	for _, defs := range append(besides(&seed), nil) {
		for _, left := range []int{0, 1, 16} {
			o, l := filled(t, &seed, left, defs...)
			ahead, aheadHas := o.Copy(), l.copied()
			for m := range defs {
				change(t, o, l, m, &seed)
			}
			behind, behindHas := o.Copy(), l.copied()
			second, secondHas := ahead.Copy(), aheadHas.copied()
			holdCopies(t, []*Owned{o, ahead, behind, second}, []kept{l, aheadHas, behindHas, secondHas}, &seed)
		}
	}
}

func TestCopiesOfOneMap(t *testing.T) { // P14.4, P14.5
	seed := uint64(40)
	for _, d := range shapes() {
		for _, left := range []int{0, 1, 2, 16} {
			o, l := filled(t, &seed, left, d)
			var told [][]byte
			for k := range d.Max {
				told = append(told, slot(t, o, 0, k))
			}
			all, has := []*Owned{o, o.Copy(), o.Copy()}, []kept{l, l.copied(), l.copied()}
			// What was told ahead of the copies is of the first one alone.
			for k := range told {
				samples.TurnAll(told[k])
				samples.TurnAll(l[0].slots[k])
			}
			for j := range all {
				hold(t, all[j], has[j])
			}
			holdCopies(t, all, has, &seed)
		}
	}
}

func TestCopiesHaveTheSameLimits(t *testing.T) { // P14.4
	seed := uint64(41)
	for _, d := range shapes() {
		o, l := filled(t, &seed, 1, d)
		c, has := o.Copy(), l.copied()
		for x := range 18 {
			update(t, c, has, 0, keyOf(x), samples.Bytes(d.Value, &seed), 0)
			get(t, c, has, 0, object(20+x%12), true)
			if d.Kind != api.MapHash {
				continue
			}
			update(t, c, has, 0, key(d, 30+x), samples.Bytes(d.Value, &seed), 0)
			update(t, c, has, 0, key(d, x)[1:], samples.Bytes(d.Value, &seed), 0)
			update(t, c, has, 0, key(d, x), samples.Bytes(d.Value+1, &seed), 0)
		}
		hold(t, c, has)
		hold(t, o, l)
	}
}
