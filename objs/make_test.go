package objs

import (
	"math"
	"reflect"
	"testing"

	"halberd/api"
	"halberd/samples"
)

func num(x uint64) api.Part  { return api.Part{Num: x} }
func obj(o api.Obj) api.Part { return api.Part{Has: true, Obj: o} }
func null() api.Part         { return api.Part{Null: true} }

// partsOf tells parts that say a context's words; of what isn't right some parts.
func partsOf(c api.Context) []api.Part {
	var l []api.Part
	for i, letter := range samples.Shapes()[c.Hook] {
		x := c.Words[i]
		switch {
		case letter == '-':
		case letter == 'n':
			l = append(l, num(x))
		case x >= 1 && x <= uint64(len(c.Objs)):
			l = append(l, obj(cloned(c.Objs[x-1])))
		default:
			l = append(l, null())
		}
	}
	return l
}

// makeAgain is Make told once more, by letters.
func makeAgain(hook int, now uint64, l []api.Part) (api.Context, bool) {
	c := api.Context{Hook: hook, Now: now}
	shape := (samples.Shapes()[hook] + "--------")[:8]
	if hook < 1 || hook > 16 || len(l) > 8 {
		return api.Context{}, false
	}
	for i, letter := range shape {
		if i >= len(l) != (letter == '-') {
			return api.Context{}, false
		}
		if letter == '-' {
			break
		}
		p := l[i]
		switch {
		case p.Null && letter == 'i':
		case !p.Null && !p.Has && letter == 'n':
			c.Words[i] = p.Num
		case !p.Null && p.Has && (p.Obj.Type == 1 && letter == 'T' || p.Obj.Type == 2 && (letter == 'I' || letter == 'i')):
			c.Objs = append(c.Objs, cloned(p.Obj))
			c.Words[i] = uint64(len(c.Objs))
		default:
			return api.Context{}, false
		}
	}
	return c, true
}

// same tells whether two contexts are the same, nil and empty lists too.
func same(a, b api.Context) bool {
	if a.Hook != b.Hook || a.Now != b.Now || a.Words != b.Words || len(a.Objs) != len(b.Objs) {
		return false
	}
	for i, o := range a.Objs {
		if !sameObj(o, b.Objs[i]) {
			return false
		}
	}
	return true
}

func sameObj(a, b api.Obj) bool {
	if len(a.Up) != len(b.Up) {
		return false
	}
	for i := range a.Up {
		if a.Up[i] != b.Up[i] {
			return false
		}
	}
	a.Up, b.Up = nil, nil
	return reflect.DeepEqual(a, b)
}

// holdMake holds what is made against what is told once more; of what is made, it asks the words.
func holdMake(t *testing.T, hook int, now uint64, l ...api.Part) {
	t.Helper()
	want, ok := makeAgain(hook, now, l)
	got, gotOk := Make(hook, now, l...)
	if !same(got, want) || gotOk != ok {
		t.Fatalf("Make(%d, %d, %+v): %+v, %v, not %+v, %v", hook, now, l, got, gotOk, want, ok)
	}
	if ok {
		holdMade(t, got, l)
	}
}

// holdMade holds the words of what was made against its parts.
func holdMade(t *testing.T, c api.Context, l []api.Part) {
	t.Helper()
	if !Right(c) {
		t.Fatalf("%+v isn't right", c)
	}
	for i, p := range l {
		x, place, ok := Word(c, i)
		isNum, isNull := !p.Null && !p.Has, p.Null
		switch {
		case !ok, isNum && (x != p.Num || place != -1), isNull && (x != 0 || place != -1):
			t.Fatalf("of %+v word %d: %d, %d, %v", l, i, x, place, ok)
		case !isNum && !isNull && (x != 0 || place < 0 || !sameObj(c.Objs[place], p.Obj)):
			t.Fatalf("of %+v word %d: %d, %d", l, i, x, place)
		}
	}
	if _, _, ok := Word(c, len(l)); ok {
		t.Fatalf("of %+v there is a word %d", l, len(l))
	}
}

func TestMakeOfChdir(t *testing.T) { // P17.4
	a, b := samples.Task(1), samples.Inode(2)
	c, ok := Make(api.HookChdir, 9, obj(a), obj(b))
	if c.Hook != 15 || c.Now != 9 || c.Words != [8]uint64{1, 2} || len(c.Objs) != 2 || !ok {
		t.Fatalf("of chdir: %+v, %v", c, ok)
	}
	if !sameObj(c.Objs[0], a) || !sameObj(c.Objs[1], b) {
		t.Errorf("its objects: %+v", c.Objs)
	}
}

func TestMakeByHand(t *testing.T) { // P17.4
	a, b := samples.Task(1), samples.Inode(2)
	for _, x := range []struct {
		hook  int
		parts []api.Part
		words [8]uint64
		objs  int
	}{
		{api.HookKill, []api.Part{obj(a), obj(a), num(9)}, [8]uint64{1, 2, 9}, 2},
		{api.HookFork, []api.Part{obj(a), num(0)}, [8]uint64{1, 0}, 1},
		{api.HookExec, []api.Part{obj(a), obj(b), null()}, [8]uint64{1, 2, 0}, 2},
		{api.HookExec, []api.Part{obj(a), obj(b), obj(b)}, [8]uint64{1, 2, 3}, 3},
		{api.HookMmap, []api.Part{obj(a), null(), num(1)}, [8]uint64{1, 0, 1}, 1},
		{api.HookMprotect, []api.Part{obj(a), obj(b), num(math.MaxUint64), num(2)}, [8]uint64{1, 2, math.MaxUint64, 2}, 2},
		{api.HookRename, []api.Part{obj(a), obj(b), obj(b), obj(b), null()}, [8]uint64{1, 2, 3, 4, 0}, 4},
		{api.HookRename, []api.Part{obj(a), obj(b), obj(b), obj(b), obj(b)}, [8]uint64{1, 2, 3, 4, 5}, 5},
		{api.HookSetattr, []api.Part{obj(a), obj(b), num(3), num(0), num(1)}, [8]uint64{1, 2, 3, 0, 1}, 2},
	} {
		c, ok := Make(x.hook, 0, x.parts...)
		if c.Hook != x.hook || c.Now != 0 || c.Words != x.words || len(c.Objs) != x.objs || !ok {
			t.Errorf("of hook %d: %+v, %v", x.hook, c, ok)
		}
		holdMake(t, x.hook, 5, x.parts...)
	}
}

func TestMakeOfEveryHook(t *testing.T) { // P17.4, P17.5
	for _, c := range samples.AllContexts() {
		got, ok := Make(c.Hook, c.Now, partsOf(c)...)
		if !same(got, c) || !ok {
			t.Errorf("made: %+v, %v, not %+v", got, ok, c)
		}
		for i := range c.Words {
			x, place, is := Word(got, i)
			if wantX, want, there := wordAgain(c, i); x != wantX || place != want || is != there {
				t.Errorf("hook %d: word %d: %d, %d, %v", c.Hook, i, x, place, is)
			}
		}
		for _, now := range []uint64{0, 1, 1 << 63, math.MaxUint64} {
			holdMake(t, c.Hook, now, partsOf(c)...)
		}
	}
}

func TestNumbersOfPartsMayBeAny(t *testing.T) { // P17.4, P17.5
	seed := uint64(1)
	for _, c := range samples.AllContexts() {
		for range 20 {
			l := partsOf(c)
			for i := range l {
				// What is beside an object, or null, says nothing.
				l[i].Num = samples.Number(&seed)
			}
			if _, ok := Make(c.Hook, 1, l...); !ok {
				t.Errorf("of %+v none is made", l)
			}
			holdMake(t, c.Hook, samples.Number(&seed), l...)
		}
	}
}

func TestOnePartFewerOrMore(t *testing.T) { // P17.4
	for _, c := range samples.AllContexts() {
		l := partsOf(c)
		for n := range len(l) {
			if got, ok := Make(c.Hook, 1, l[:n]...); ok || !same(got, api.Context{}) {
				t.Errorf("hook %d of %d parts: %+v", c.Hook, n, got)
			}
			if got, ok := Make(c.Hook, 1, append(append([]api.Part(nil), l[:n]...), l[n+1:]...)...); ok || !same(got, api.Context{}) {
				t.Errorf("hook %d without part %d: %+v", c.Hook, n, got)
			}
		}
		for _, more := range []api.Part{num(0), num(1), null(), obj(samples.Task(1)), obj(samples.Inode(1)), obj(api.Obj{})} {
			d := append(l[:len(l):len(l)], more)
			if got, ok := Make(c.Hook, 1, d...); ok || !same(got, api.Context{}) {
				t.Errorf("hook %d with %+v behind: %+v", c.Hook, more, got)
			}
			for len(d) < 300 {
				d = append(d, more)
				holdMake(t, c.Hook, 1, d...)
			}
		}
	}
	if got, ok := Make(api.HookFork, 1, make([]api.Part, 1<<16)...); ok || !same(got, api.Context{}) {
		t.Errorf("of many parts: %+v", got)
	}
}

func TestMakeOfNoHook(t *testing.T) { // P17.4
	for _, hook := range append(samples.Outside(1, 16), 0, 17, -1, math.MaxInt, math.MinInt) {
		for _, l := range [][]api.Part{nil, {}, {num(0)}, {obj(samples.Task(1)), obj(samples.Inode(1))}, {obj(samples.Task(1)), num(1)}, {null()}} {
			if got, ok := Make(hook, 1, l...); ok || !same(got, api.Context{}) {
				t.Errorf("hook %d of %+v: %+v", hook, l, got)
			}
		}
	}
}

func TestPartsOfOtherHooks(t *testing.T) { // P17.4
	for _, c := range samples.AllContexts() {
		for hook := range 18 {
			holdMake(t, hook, 1, partsOf(c)...)
		}
	}
}

// otherParts has parts of each kind, some both null and an object, objects of any type, numbers that name objects.
func otherParts() []api.Part {
	l := []api.Part{null(), {Null: true, Num: 1}, {Null: true, Has: true, Obj: samples.Task(4)}, {Null: true, Has: true, Obj: samples.Inode(4)}, {Obj: samples.Task(4)}, {Obj: samples.Inode(4), Num: 1}}
	for _, x := range []uint64{0, 1, 2, 3, 4, 5, math.MaxUint64} {
		l = append(l, num(x))
	}
	for _, typ := range []int{0, 1, 2, 3, 4, -1, 1 << 32, 1<<32 + 1, 1<<32 + 2, math.MaxInt, math.MinInt} {
		o := samples.Task(4)
		o.Type = typ
		l = append(l, obj(o))
	}
	return l
}

func TestEachPartTurned(t *testing.T) { // P17.4, P17.5
	for _, c := range samples.AllContexts() {
		for i := range partsOf(c) {
			for _, p := range otherParts() {
				l := partsOf(c)
				l[i] = p
				holdMake(t, c.Hook, 1, l...)
				for j := range l {
					d := append([]api.Part(nil), l...)
					d[j] = p
					holdMake(t, c.Hook, 1, d...)
				}
			}
		}
	}
}

func TestPartsOfTheWrongKind(t *testing.T) { // P17.4
	for hook, shape := range samples.Shapes() {
		l := samples.Contexts(hook)
		good := partsOf(l[len(l)-1])
		for i := range good {
			wrong := map[byte][]api.Part{
				'n': {null(), obj(samples.Task(1)), obj(samples.Inode(1)), {Null: true, Num: 5}, {Has: true, Num: 5}, {Null: true, Has: true, Obj: samples.Task(1)}},
				'T': {null(), num(0), num(1), num(2), obj(samples.Inode(1)), obj(api.Obj{}), obj(api.Obj{Type: 3}), {Obj: samples.Task(1)}, {Null: true, Has: true, Obj: samples.Task(1)}},
				'I': {null(), num(0), num(1), num(2), obj(samples.Task(1)), obj(api.Obj{}), obj(api.Obj{Type: 3}), {Obj: samples.Inode(1)}, {Null: true, Has: true, Obj: samples.Inode(1)}},
				'i': {num(0), num(1), num(2), num(3), obj(samples.Task(1)), obj(api.Obj{}), obj(api.Obj{Type: 3}), {Obj: samples.Inode(1)}},
			}[shape[i]]
			for _, p := range wrong {
				d := append([]api.Part(nil), good...)
				d[i] = p
				if got, ok := Make(hook, 1, d...); ok || !same(got, api.Context{}) {
					t.Errorf("hook %d with part %d as %+v: %+v", hook, i, p, got)
				}
			}
		}
	}
}

func TestNullAndAnObject(t *testing.T) { // P17.4
	for _, typ := range []int{0, 1, 2, 3} {
		both := api.Part{Null: true, Has: true, Obj: api.Obj{Type: typ}, Num: 7}
		c, ok := Make(api.HookExec, 1, obj(samples.Task(1)), obj(samples.Inode(2)), both)
		if !ok || c.Words != [8]uint64{1, 2} || len(c.Objs) != 2 {
			t.Errorf("null and an object of type %d: %+v, %v", typ, c, ok)
		}
		c, ok = Make(api.HookMmap, 1, obj(samples.Task(1)), both, num(3))
		if !ok || c.Words != [8]uint64{1, 0, 3} || len(c.Objs) != 1 {
			t.Errorf("null and an object of type %d: %+v, %v", typ, c, ok)
		}
	}
}

func TestObjectsHaveOnePlaceEach(t *testing.T) { // P17.4, P17.5
	a, b, d := samples.Inode(1), samples.Inode(2), samples.Inode(3)
	for _, l := range [][]api.Obj{{a, b, d, a}, {a, a, a, a}, {d, b, a, b}, {b, b, a, a}} {
		c, ok := Make(api.HookRename, 1, obj(samples.Task(1)), obj(l[0]), obj(l[1]), obj(l[2]), obj(l[3]))
		if !ok || len(c.Objs) != 5 {
			t.Fatalf("of %v: %+v, %v", l, c, ok)
		}
		for i, o := range l {
			if _, place, _ := Word(c, i+1); place != i+1 || !sameObj(c.Objs[place], o) {
				t.Errorf("of %v: word %d is at %d", l, i+1, place)
			}
		}
	}
}

func TestDrawnParts(t *testing.T) { // P17.4, P17.5
	seed := uint64(2)
	made, most := 0, otherParts()
	all := samples.AllContexts()
	for range 20000 {
		c := all[samples.Below(&seed, len(all))]
		l := partsOf(c)
		for range samples.Below(&seed, 3) {
			l[samples.Below(&seed, len(l))] = most[samples.Below(&seed, len(most))]
		}
		if samples.Below(&seed, 8) == 0 {
			l = l[:samples.Below(&seed, len(l)+1)]
		}
		if samples.Below(&seed, 8) == 0 {
			c.Hook = samples.Below(&seed, 19) - 1
		}
		if _, ok := makeAgain(c.Hook, 1, l); ok {
			made++
		}
		holdMake(t, c.Hook, samples.Number(&seed), l...)
	}
	if made < 5000 || made > 15000 {
		t.Errorf("of 20000 contexts %d are made", made)
	}
}

// withRoom tells parts with room behind them, and behind their objects' lists, in which something stands.
func withRoom(l []api.Part) []api.Part {
	room := append(append(make([]api.Part, 0, 9), l...), num(77), null())
	for i, p := range l {
		up := append(append(make([]int, 0, 9), p.Obj.Up...), 55, 56)
		room[i].Obj.Up = up[:len(p.Obj.Up)]
	}
	return room[:len(l)]
}

// deepParts tells the same parts, and what stands in the room behind them, of which nothing is shared.
func deepParts(l []api.Part) []api.Part {
	d := append([]api.Part(nil), l[:cap(l)]...)
	for i := range d {
		d[i].Obj = samples.DeepObj(d[i].Obj)
	}
	return d
}

// writeOver turns all that can be reached from what was made, room behind its lists too.
func writeOver(c *api.Context) {
	for range 2 {
		l := c.Objs[:cap(c.Objs)]
		for i := range l {
			for range 2 {
				up := l[i].Up[:cap(l[i].Up)]
				for j := range up {
					up[j] = -9 - up[j]
				}
				l[i].Up = append(l[i].Up, 1, 2, 3)
			}
			up := l[i].Up
			l[i] = api.Obj{Type: 3 - l[i].Type, Path: "over", Up: up, Key: api.Key{Id: -1, Gen: -1}, F: [8]uint64{99, 98, 97}}
		}
		c.Objs = append(c.Objs, samples.Task(99), samples.Inode(99))
	}
	c.Hook, c.Now, c.Words = 99, 99, [8]uint64{99, 99}
}

func TestWhatWasMadeIsWrittenOver(t *testing.T) { // P17.4
	for _, c := range samples.AllContexts() {
		l := withRoom(partsOf(c))
		was := deepParts(l)
		first, _ := Make(c.Hook, c.Now, l...)
		second, _ := Make(c.Hook, c.Now, l...)
		if now := deepParts(l); !reflect.DeepEqual(now, was) {
			t.Fatalf("what was handed in, %+v, is %+v", was, now)
		}
		writeOver(&first)
		if now := deepParts(l); !reflect.DeepEqual(now, was) {
			t.Fatalf("what was handed in, %+v, is %+v, as what was made is written over", was, now)
		}
		if !same(second, c) {
			t.Errorf("hook %d: what was made beside it is %+v", c.Hook, second)
		}
		holdMake(t, c.Hook, c.Now, l...)
	}
}

func TestWhatWasHandedInIsWrittenOver(t *testing.T) { // P17.4
	for _, c := range samples.AllContexts() {
		l := withRoom(partsOf(c))
		got, _ := Make(c.Hook, c.Now, l...)
		for i := range l {
			up := l[i].Obj.Up[:cap(l[i].Obj.Up)]
			for j := range up {
				up[j] = -3
			}
		}
		clear(l[:cap(l)])
		if !same(got, c) {
			t.Errorf("what was made is %+v, not %+v", got, c)
		}
	}
}

func TestOneListOfTwoObjects(t *testing.T) { // P17.4
	up := []int{3, 2, 1}
	a := samples.Task(3)
	a.Up = up
	c, ok := Make(api.HookKill, 1, obj(a), obj(a), num(1))
	if !ok || len(c.Objs) != 2 {
		t.Fatalf("of kill: %+v, %v", c, ok)
	}
	c.Objs[0].Up[0] = 9
	if c.Objs[1].Up[0] != 3 || up[0] != 3 {
		t.Errorf("two objects share a list: %v, %v, %v", c.Objs[0].Up, c.Objs[1].Up, up)
	}
	c.Objs[1].Up = append(c.Objs[1].Up, 7)
	if len(c.Objs[0].Up) != 3 || c.Objs[0].Up[0] != 9 {
		t.Errorf("two objects share the room behind a list: %v", c.Objs[0].Up)
	}
}

func TestListsOfObjectsNilAndEmpty(t *testing.T) { // P17.4
	for _, up := range [][]int{nil, {}, make([]int, 0, 4), {1}, samples.UpTo(1000)} {
		a := samples.Task(3)
		a.Up = up
		holdMake(t, api.HookFork, 1, obj(a), num(4))
		c, _ := Make(api.HookFork, 1, obj(a), num(4))
		was := append([]int(nil), up[:cap(up)]...)
		writeOver(&c)
		if now := append([]int(nil), up[:cap(up)]...); !reflect.DeepEqual(now, was) {
			t.Errorf("%v is %v", was, now)
		}
	}
}

func TestNothingIsKeptOfWhatWasMade(t *testing.T) { // P17.4, P17.5
	seed := uint64(3)
	all := samples.AllContexts()
	for range 300 {
		other, c := all[samples.Below(&seed, len(all))], all[samples.Below(&seed, len(all))]
		made, _ := Make(other.Hook, samples.Number(&seed), partsOf(other)...)
		holdMake(t, c.Hook, c.Now, partsOf(c)...)
		writeOver(&made)
		holdMake(t, c.Hook, c.Now, partsOf(c)...)
	}
}
