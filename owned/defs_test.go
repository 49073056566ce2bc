package owned

import (
	"math"
	"slices"
	"testing"

	"halberd/api"
	"halberd/samples"
)

// refuse holds that descriptions may not be a program's maps.
func refuse(t *testing.T, l []api.MapDef) {
	t.Helper()
	if May(l) {
		t.Fatalf("May(%v)", l)
	}
	if o, err := New(l); o != nil || err != api.EINVAL {
		t.Fatalf("New(%v): %v, %d", l, o, err)
	}
}

func accept(t *testing.T, l []api.MapDef) {
	t.Helper()
	if !May(l) {
		t.Fatalf("May(%v) is false", l)
	}
	o, has := made(t, l...)
	hold(t, o, has)
}

func TestExample(t *testing.T) { // P14.1, P14.2
	o, has := made(t, arrayOf(1, 2))
	if err := o.Update(0, []byte{1, 0, 0, 0}, []byte("x"), 0); err != api.OK {
		t.Errorf("Update: %d", err)
	}
	if k, ok := o.Lookup(0, []byte{1, 0, 0, 0}); k != 1 || !ok {
		t.Errorf("Lookup of 1: %d, %v", k, ok)
	}
	if k, ok := o.Lookup(0, []byte{2, 0, 0, 0}); k != 0 || ok {
		t.Errorf("Lookup of 2: %d, %v", k, ok)
	}
	has.update(0, []byte{1, 0, 0, 0}, []byte("x"), 0)
	hold(t, o, has)
}

func TestDescriptions(t *testing.T) { // P14.1
	for _, c := range []struct {
		kind, key, value, most int
		may                    bool
	}{
		{1, 4, 1, 1, true}, {1, 4, 32, 1, true}, {1, 4, 1, 16, true}, {1, 4, 32, 16, true},
		{1, 4, 0, 1, false}, {1, 4, 33, 1, false}, {1, 4, 1, 0, false}, {1, 4, 1, 17, false}, {1, 4, -1, 1, false}, {1, 4, 1, -1, false},
		{1, 0, 1, 1, false}, {1, 1, 1, 1, false}, {1, 3, 1, 1, false}, {1, 5, 1, 1, false}, {1, 8, 1, 1, false}, {1, -4, 1, 1, false},
		{2, 1, 1, 1, true}, {2, 8, 1, 1, true}, {2, 1, 32, 16, true}, {2, 8, 32, 16, true}, {2, 4, 2, 2, true},
		{2, 0, 1, 1, false}, {2, 9, 1, 1, false}, {2, -1, 1, 1, false}, {2, 8, 0, 1, false}, {2, 8, 33, 1, false}, {2, 8, 1, 0, false}, {2, 8, 1, 17, false},
		{3, 0, 1, 1, true}, {3, 0, 32, 16, true}, {3, 1, 1, 1, false}, {3, 4, 1, 1, false}, {3, -1, 1, 1, false},
		{3, 0, 0, 1, false}, {3, 0, 33, 1, false}, {3, 0, 1, 0, false}, {3, 0, 1, 17, false},
		{4, 0, 1, 1, true}, {4, 0, 32, 16, true}, {4, 1, 1, 1, false}, {4, 4, 1, 1, false}, {4, -1, 1, 1, false},
		{4, 0, 0, 1, false}, {4, 0, 33, 1, false}, {4, 0, 1, 0, false}, {4, 0, 1, 17, false},
		{5, 0, 0, 0, true}, {5, 1, 0, 0, false}, {5, 4, 0, 0, false}, {5, 0, 1, 0, false}, {5, 0, 0, 1, false}, {5, 0, 1, 1, false},
		{5, -1, 0, 0, false}, {5, 0, -1, 0, false}, {5, 0, 0, -1, false}, {5, 0, 0, 256, false},
		{0, 0, 0, 0, false}, {0, 4, 1, 1, false}, {0, 0, 1, 1, false}, {6, 0, 0, 0, false}, {6, 4, 1, 1, false}, {6, 0, 1, 1, false},
		{-1, 4, 1, 1, false}, {-3, 0, 1, 1, false}, {-5, 0, 0, 0, false}, {257, 4, 1, 1, false}, {1<<32 + 1, 4, 1, 1, false},
	} {
		l := []api.MapDef{{Kind: c.kind, Key: c.key, Value: c.value, Max: c.most}}
		if c.may {
			accept(t, l)
		} else {
			refuse(t, l)
		}
	}
}

// lengths tells which lengths a kind's keys may have, and whether it has slots; none of what is no kind.
func lengths(kind int) ([]int, bool) {
	switch kind {
	case api.MapArray:
		return []int{4}, true
	case api.MapHash:
		return samples.UpTo(8), true
	case api.MapInode, api.MapTask:
		return []int{0}, true
	case api.MapRing:
		return []int{0}, false
	}
	return nil, false
}

func TestAllDescriptionsAboutTheBounds(t *testing.T) { // P14.1
	for kind := -1; kind <= 7; kind++ {
		for length := -1; length <= 10; length++ {
			for value := -1; value <= 34; value++ {
				for most := -1; most <= 18; most++ {
					l := []api.MapDef{{Kind: kind, Key: length, Value: value, Max: most}}
					may, sized := lengths(kind)
					right := slices.Contains(may, length) && sized && value >= 1 && value <= 32 && most >= 1 && most <= 16
					if right || l[0] == aRing() {
						accept(t, l)
					} else {
						refuse(t, l)
					}
				}
			}
		}
	}
}

func TestDescriptionsFarOff(t *testing.T) { // P14.1
	for _, d := range shapes() {
		keys, sized := lengths(d.Kind)
		noKeys, noValues, noMosts := samples.Outside(keys[0], keys[len(keys)-1]), samples.Outside(1, 32), samples.Outside(1, 16)
		if !sized {
			noValues, noMosts = samples.Outside(0, 0), samples.Outside(0, 0)
		}
		for _, kind := range samples.Outside(1, 5) {
			refuse(t, []api.MapDef{{Kind: kind, Key: d.Key, Value: d.Value, Max: d.Max}})
		}
		for _, n := range noKeys {
			refuse(t, []api.MapDef{{Kind: d.Kind, Key: n, Value: d.Value, Max: d.Max}})
		}
		for _, n := range noValues {
			refuse(t, []api.MapDef{{Kind: d.Kind, Key: d.Key, Value: n, Max: d.Max}})
		}
		for _, n := range noMosts {
			refuse(t, []api.MapDef{{Kind: d.Kind, Key: d.Key, Value: d.Value, Max: n}})
		}
	}
	for _, n := range []int{math.MinInt, -1, math.MaxInt} {
		refuse(t, []api.MapDef{{Kind: n, Key: n, Value: n, Max: n}})
	}
}

// lists has all lists of kinds of a length.
func lists(length int) [][]int {
	if length == 0 {
		return [][]int{nil}
	}
	var l [][]int
	for _, shorter := range lists(length - 1) {
		for _, kind := range kinds() {
			l = append(l, append(slices.Clone(shorter), kind))
		}
	}
	return l
}

func TestHowManyMaps(t *testing.T) { // P14.1
	accept(t, nil)
	accept(t, []api.MapDef{})
	seed := uint64(1)
	for _, kind := range kinds() {
		var l []api.MapDef
		for n := 1; n <= 20; n++ {
			l = append(l, drawDef(kind, &seed))
			if n <= 4 {
				accept(t, l)
			} else {
				refuse(t, l)
			}
		}
	}
	for _, of := range lists(5) {
		var l []api.MapDef
		for _, kind := range of {
			l = append(l, drawDef(kind, &seed))
		}
		refuse(t, l)
		accept(t, l[:4])
		accept(t, l[1:])
	}
	refuse(t, make([]api.MapDef, 4))
	refuse(t, slices.Repeat([]api.MapDef{aRing()}, 1000))
}

func TestOneThatMayNotBeAmongOthers(t *testing.T) { // P14.1
	seed := uint64(2)
	wrong := []api.MapDef{{}, {Kind: 6}, arrayOf(0, 1), arrayOf(1, 17), hashOf(9, 1, 1), hashOf(0, 1, 1), inodesOf(33, 1), tasksOf(1, 0), {Kind: 5, Max: 1}, {Kind: 3, Key: 4, Value: 1, Max: 1}}
	for n := 1; n <= 4; n++ {
		for _, of := range lists(n) {
			var l []api.MapDef
			for _, kind := range of {
				l = append(l, drawDef(kind, &seed))
			}
			accept(t, l)
			for m := range l {
				was := l[m]
				for _, l[m] = range wrong {
					refuse(t, l)
				}
				l[m] = was
			}
		}
	}
}

func TestNewIsAllZerosAndEmpty(t *testing.T) { // P14.1
	seed := uint64(3)
	for n := range 5 {
		for _, of := range lists(n) {
			var l []api.MapDef
			for _, kind := range of {
				l = append(l, drawDef(kind, &seed))
			}
			o, has := made(t, l...)
			hold(t, o, has)
			for m, d := range l {
				for k := range d.Max {
					for i, b := range slot(t, o, m, k) {
						if b != 0 {
							t.Errorf("map %d of %v, slot %d, byte %d: %d", m, d, k, i, b)
						}
					}
					if b := slot(t, o, m, k); len(b) != d.Value {
						t.Errorf("map %d of %v, slot %d: %d bytes", m, d, k, len(b))
					}
				}
			}
		}
	}
}

func TestDefOfNoMap(t *testing.T) { // P14.1
	seed := uint64(4)
	for n := range 5 {
		var l []api.MapDef
		for range n {
			l = append(l, drawDef(1+samples.Below(&seed, 5), &seed))
		}
		o, has := made(t, l...)
		for _, m := range samples.Outside(0, n-1) {
			if d, ok := o.Def(m); d != (api.MapDef{}) || ok {
				t.Errorf("Def(%d) of %d maps: %v, %v", m, n, d, ok)
			}
		}
		hold(t, o, has)
	}
}

func TestDescriptionsHandedInAreNeitherChangedNorKept(t *testing.T) { // P14.1
	seed := uint64(5)
	for n := 1; n <= 4; n++ {
		for _, of := range lists(n) {
			l := make([]api.MapDef, 0, 6)
			for _, kind := range of {
				l = append(l, drawDef(kind, &seed))
			}
			was := append(slices.Clone(l), api.MapDef{Kind: 9}, api.MapDef{Kind: 9})
			all := l[:6]
			copy(all[n:], was[n:])
			May(l)
			o, has := made(t, l...)
			hold(t, o, has)
			if !slices.Equal(all[:n+2], was) {
				t.Errorf("what is handed in is %v, was %v", all, was)
			}
			for i := range all {
				all[i] = api.MapDef{Kind: 7, Key: 7, Value: 7, Max: 7}
			}
			hold(t, o, has)
			for m := range l {
				fill(t, o, has, m, 16, &seed)
			}
			hold(t, o, has)
		}
	}
}
