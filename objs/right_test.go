package objs

import (
	"math"
	"reflect"
	"testing"

	"halberd/api"
	"halberd/samples"
)

// named tells the type of the object that a word names; 0, if it names none.
func named(c api.Context, x uint64) int {
	for place, o := range c.Objs {
		if x == uint64(place)+1 {
			return o.Type
		}
	}
	return 0
}

// isRight is Right told once more, by letters.
func isRight(c api.Context) bool {
	shape, ok := samples.Shapes()[c.Hook]
	if !ok || len(c.Objs) > 8 {
		return false
	}
	for _, o := range c.Objs {
		if o.Type < 1 || o.Type > 2 {
			return false
		}
	}
	for i, x := range c.Words {
		is := map[byte]bool{'n': true, '-': x == 0, 'T': named(c, x) == 1, 'I': named(c, x) == 2, 'i': x == 0 || named(c, x) == 2}
		if !is[shape[i]] {
			return false
		}
	}
	return true
}

// wordAgain is Word told once more, by letters.
func wordAgain(c api.Context, i int) (uint64, int, bool) {
	if !isRight(c) || i < 0 || i > 7 || samples.Shapes()[c.Hook][i] == '-' {
		return 0, -1, false
	}
	if samples.Shapes()[c.Hook][i] == 'n' {
		return c.Words[i], -1, true
	}
	for place := range c.Objs {
		if c.Words[i] == uint64(place+1) {
			return 0, place, true
		}
	}
	return 0, -1, true
}

// hold holds what is told of a context, and of its words about the edges, against what is told once more.
func hold(t *testing.T, c api.Context) {
	t.Helper()
	if got := Right(c); got != isRight(c) {
		t.Fatalf("Right(%+v): %v", c, got)
	}
	for i := -2; i <= 10; i++ {
		holdWord(t, c, i)
	}
}

func holdWord(t *testing.T, c api.Context, i int) {
	t.Helper()
	x, place, ok := wordAgain(c, i)
	if gotX, gotPlace, gotOk := Word(c, i); gotX != x || gotPlace != place || gotOk != ok {
		t.Fatalf("Word(%+v, %d): %d, %d, %v, not %d, %d, %v", c, i, gotX, gotPlace, gotOk, x, place, ok)
	}
}

// someWords has numbers that name objects, or none: near, with low bytes that do, and greater than any int.
func someWords() []uint64 {
	l := []uint64{1 << 31, 1<<31 + 1, 1<<63 - 1, 1 << 63, 1<<63 + 1, 1<<63 + 2, math.MaxUint64 - 1, math.MaxUint64}
	for i := range uint64(11) {
		l = append(l, i, 1<<8+i, 1<<16+i, 1<<32+i, 1<<63+i)
	}
	return l
}

func TestEveryHook(t *testing.T) { // P17.1, P17.2
	for hook := 1; hook <= 16; hook++ {
		l := samples.Contexts(hook)
		if nulls := map[int]int{6: 2, 8: 2, 9: 2, 10: 2}[hook]; len(l) != max(nulls, 1) {
			t.Errorf("of hook %d: %d contexts", hook, len(l))
		}
		for _, c := range l {
			if !Right(c) {
				t.Errorf("Right(%+v): false", c)
			}
			hold(t, c)
		}
	}
}

func TestWordsByHand(t *testing.T) { // P17.2
	c := api.Context{Hook: api.HookRename, Words: [8]uint64{2, 3, 1, 3, 0}, Objs: []api.Obj{samples.Inode(5), samples.Task(1), samples.Inode(6)}}
	for i, place := range []int{1, 2, 0, 2, -1} {
		if x, got, ok := Word(c, i); x != 0 || got != place || !ok {
			t.Errorf("rename's word %d: %d, %d, %v, not at %d", i, x, got, ok, place)
		}
	}
	c = api.Context{Hook: api.HookSetattr, Words: [8]uint64{2, 1, 0, math.MaxUint64, 1}, Objs: []api.Obj{samples.Inode(5), samples.Task(1)}}
	for i, want := range []uint64{0, 0, 0, math.MaxUint64, 1} {
		place := []int{1, 0, -1, -1, -1}[i]
		if x, got, ok := Word(c, i); x != want || got != place || !ok {
			t.Errorf("setattr's word %d: %d, %d, %v, not %d at %d", i, x, got, ok, want, place)
		}
	}
	for _, i := range append(samples.Outside(0, 4), -1, 5, 7, 8) {
		if x, place, ok := Word(c, i); x != 0 || place != -1 || ok {
			t.Errorf("setattr's word %d: %d, %d, %v", i, x, place, ok)
		}
	}
}

func TestNumbersMayBeAny(t *testing.T) { // P17.1, P17.2
	seed := uint64(1)
	for _, c := range samples.AllContexts() {
		for i, letter := range samples.Shapes()[c.Hook] {
			if letter != 'n' {
				continue
			}
			for range 20 {
				d := c
				d.Words[i] = samples.Number(&seed)
				if x, place, ok := Word(d, i); x != d.Words[i] || place != -1 || !ok || !Right(d) {
					t.Errorf("hook %d, word %d of %d: %d, %d, %v", d.Hook, i, d.Words[i], x, place, ok)
				}
			}
		}
	}
}

func TestEachWordTurned(t *testing.T) { // P17.1, P17.2
	for _, c := range samples.AllContexts() {
		for i := range c.Words {
			for _, x := range someWords() {
				d := c
				d.Words[i] = x
				hold(t, d)
			}
		}
	}
}

func TestWordsThatAHookHasNotAre0(t *testing.T) { // P17.1, P17.2
	for _, c := range samples.AllContexts() {
		for i, letter := range samples.Shapes()[c.Hook] {
			for _, x := range []uint64{1, 2, 8, 1 << 32, 1 << 63, math.MaxUint64} {
				d := c
				d.Words[i] = x
				if letter == '-' && Right(d) {
					t.Errorf("hook %d with a word %d of %d is right", d.Hook, i, x)
				}
			}
			if _, _, ok := Word(c, i); ok != (letter != '-') {
				t.Errorf("hook %d: word %d: %v", c.Hook, i, ok)
			}
		}
	}
}

func TestWordsFarOff(t *testing.T) { // P17.2
	for _, c := range samples.AllContexts() {
		for _, i := range append(samples.Outside(0, 7), samples.Ends()...) {
			holdWord(t, c, i)
		}
	}
}

func TestNoHook(t *testing.T) { // P17.1, P17.2
	for _, c := range append(samples.AllContexts(), api.Context{}, api.Context{Words: [8]uint64{1}, Objs: []api.Obj{samples.Task(1)}}) {
		for _, hook := range append(samples.Outside(1, 16), 0, 17, -1, math.MaxInt, math.MinInt) {
			c.Hook = hook
			if Right(c) {
				t.Errorf("hook %d is right", hook)
			}
			for i := -1; i <= 8; i++ {
				if x, place, ok := Word(c, i); x != 0 || place != -1 || ok {
					t.Errorf("hook %d: word %d: %d, %d, %v", hook, i, x, place, ok)
				}
			}
		}
	}
}

func TestContextsOfOtherHooks(t *testing.T) { // P17.1, P17.2
	for _, c := range samples.AllContexts() {
		for hook := range 18 {
			c.Hook = hook
			hold(t, c)
		}
	}
}

func TestNullWhereItMayBe(t *testing.T) { // P17.1, P17.2
	for _, c := range samples.AllContexts() {
		for i, letter := range samples.Shapes()[c.Hook] {
			d := c
			d.Words[i] = 0
			if Right(d) != (letter != 'T' && letter != 'I') {
				t.Errorf("hook %d with word %d null: %v", d.Hook, i, Right(d))
			}
			hold(t, d)
		}
	}
}

func TestObjectsOfOtherTypes(t *testing.T) { // P17.1
	for _, c := range samples.AllContexts() {
		for place := range c.Objs {
			for _, typ := range append(samples.Ends(), 1, 2, 3, 4, 5, 6, 1<<8+1, 1<<32+2, -3) {
				d := c
				d.Objs = append([]api.Obj(nil), c.Objs...)
				d.Objs[place].Type = typ
				// Each object of these contexts has a word, which wants its type.
				if Right(d) != (typ == c.Objs[place].Type) {
					t.Errorf("hook %d with object %d of type %d: %v", d.Hook, place, typ, Right(d))
				}
				hold(t, d)
			}
		}
	}
}

// beside tells a context with objects behind its own, that no word names.
func beside(c api.Context, l ...api.Obj) api.Context {
	c.Objs = append(c.Objs[:len(c.Objs):len(c.Objs)], l...)
	return c
}

func TestObjectsThatNoWordNames(t *testing.T) { // P17.1
	for _, c := range samples.AllContexts() {
		for n := range 12 {
			var more []api.Obj
			for i := range n {
				more = append(more, []api.Obj{samples.Task(i), samples.Inode(i)}[i%2])
			}
			d := beside(c, more...)
			if Right(d) != (len(d.Objs) <= 8) {
				t.Errorf("hook %d with %d objects: %v", d.Hook, len(d.Objs), Right(d))
			}
			hold(t, d)
		}
		for _, typ := range append(samples.Outside(1, 2), 0, 3) {
			if d := beside(c, samples.Task(1), api.Obj{Type: typ}, samples.Inode(1)); Right(d) {
				t.Errorf("hook %d with one more object of type %d is right", d.Hook, typ)
			}
		}
	}
}

func TestNoObjects(t *testing.T) { // P17.1, P17.2
	for hook := range 18 {
		for _, l := range [][]api.Obj{nil, {}} {
			c := api.Context{Hook: hook, Objs: l}
			if Right(c) {
				t.Errorf("hook %d is right without objects", hook)
			}
			hold(t, c)
		}
	}
}

func TestEachPlaceOfAnObject(t *testing.T) { // P17.1, P17.2
	for n := range 10 {
		for place := range n {
			c := api.Context{Hook: api.HookChdir}
			for i := range n {
				c.Objs = append(c.Objs, samples.Inode(i))
			}
			c.Objs[place] = samples.Task(9)
			for at := range uint64(12) {
				for other := range uint64(12) {
					c.Words = [8]uint64{at, other}
					hold(t, c)
				}
			}
		}
	}
}

func TestManyObjects(t *testing.T) { // P17.1
	for _, n := range []int{9, 16, 256, 257, 264, 1 << 16} {
		c := api.Context{Hook: api.HookFork, Words: [8]uint64{1, 2}}
		for i := range n {
			c.Objs = append(c.Objs, samples.Task(i))
		}
		for _, at := range []uint64{1, 8, 9, uint64(n)} {
			c.Words[0] = at
			if _, place, ok := Word(c, 0); Right(c) || place != -1 || ok {
				t.Errorf("%d objects: word 0 is %d, %v", n, place, ok)
			}
		}
	}
}

// drawn draws a context, whatever it is; about every third is right.
func drawn(seed *uint64) api.Context {
	l := samples.AllContexts()
	c := l[samples.Below(seed, len(l))]
	c.Now = samples.Number(seed)
	c.Objs = append([]api.Obj(nil), c.Objs...)
	for range samples.Below(seed, 4) {
		switch samples.Below(seed, 6) {
		case 0:
			c.Words[samples.Below(seed, 8)] = uint64(samples.Below(seed, 5))
		case 1:
			c.Words[samples.Below(seed, 8)] = samples.Number(seed)
		case 2:
			c.Hook = samples.Below(seed, 19) - 1
		case 3:
			c.Objs = append(c.Objs, []api.Obj{samples.Task(1), samples.Inode(2)}[samples.Below(seed, 2)])
		case 4:
			c.Objs = c.Objs[:samples.Below(seed, len(c.Objs)+1)]
		case 5:
			if len(c.Objs) > 0 {
				c.Objs[samples.Below(seed, len(c.Objs))].Type = samples.Below(seed, 5) - 1
			}
		}
	}
	return c
}

func TestDrawnContexts(t *testing.T) { // P17.1, P17.2
	seed := uint64(2)
	right := 0
	for range 20000 {
		c := drawn(&seed)
		if isRight(c) {
			right++
		}
		hold(t, c)
	}
	if right < 4000 || right > 16000 {
		t.Errorf("of 20000 contexts %d are right", right)
	}
}

// cloned tells the same object, whose list is its own.
func cloned(o api.Obj) api.Obj {
	o.Up = append([]int(nil), o.Up...)
	return o
}

func TestContextsStayAsTheyAre(t *testing.T) { // P17.1, P17.2
	seed := uint64(3)
	for range 2000 {
		c := drawn(&seed)
		was := samples.DeepContext(c)
		Right(c)
		for i := -1; i <= 8; i++ {
			Word(c, i)
		}
		if now := samples.DeepContext(c); !reflect.DeepEqual(now, was) {
			t.Fatalf("%+v is %+v now", was, now)
		}
	}
}

func TestNothingHangsOnWhatWasAskedAhead(t *testing.T) { // P17.1, P17.2
	seed := uint64(4)
	for range 300 {
		other, c := drawn(&seed), drawn(&seed)
		Right(other)
		Word(other, samples.Below(&seed, 8))
		hold(t, c)
		Make(other.Hook, 1, partsOf(other)...)
		hold(t, c)
	}
}
