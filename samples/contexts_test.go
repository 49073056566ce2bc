package samples

import (
	"reflect"
	"strings"
	"testing"

	"halberd/api"
)

func TestShapesOfAllHooks(t *testing.T) {
	all := Shapes()
	for hook, shape := range all {
		words := strings.TrimRight(shape, "-")
		if hook < 1 || hook > 16 || len(shape) != api.Words || words == "" || words[0] != 'T' || strings.Trim(words, "TIin") != "" {
			t.Errorf("hook %d: %q", hook, shape)
		}
	}
	if len(all) != 16 {
		t.Errorf("%d hooks", len(all))
	}
}

func TestObjectsDiffer(t *testing.T) {
	for n := range 20 {
		a, b := Task(n), Inode(n)
		if a.Type != api.TypeTask || b.Type != api.TypeInode || a.Path != "" || b.Path == "" || len(a.Up) == 0 || len(b.Up) > 0 {
			t.Errorf("of %d: %+v, %+v", n, a, b)
		}
		for i := range a.F {
			for j := range i {
				if a.F[i] == a.F[j] {
					t.Errorf("of %d two fields are the same: %v", n, a.F)
				}
			}
		}
		if c, d := Task(n+1), Inode(n+1); a.F == c.F || a.Key == c.Key || b.F == d.F || b.Key == d.Key || b.Path == d.Path {
			t.Errorf("of %d and %d: %+v, %+v, %+v, %+v", n, n+1, a, b, c, d)
		}
	}
}

func TestContextsAreAsTheirLettersSay(t *testing.T) {
	for hook, shape := range Shapes() {
		l := Contexts(hook)
		if want := 1 + strings.Count(shape, "i"); len(l) != want {
			t.Errorf("hook %d: %d contexts, not %d", hook, len(l), want)
		}
		for _, c := range l {
			holdLetters(t, c, shape)
		}
		whole := l[len(l)-1]
		if objs := strings.Count(strings.ToUpper(shape), "T") + strings.Count(strings.ToUpper(shape), "I"); len(whole.Objs) != objs {
			t.Errorf("hook %d: the last one has %d objects, not %d", hook, len(whole.Objs), objs)
		}
	}
	if l := AllContexts(); len(l) != 20 || l[0].Hook != 1 || l[19].Hook != 16 {
		t.Errorf("%d contexts", len(l))
	}
}

// holdLetters asks whether each word of a context is as its letter says; numbers and null aren't objects' places, and each object has a word.
func holdLetters(t *testing.T, c api.Context, shape string) {
	t.Helper()
	next := uint64(1)
	for i, letter := range shape {
		x := c.Words[i]
		switch {
		case letter == '-' && x == 0, letter == 'n' && x > 8, letter == 'i' && x == 0:
		case x == next && int(x) <= len(c.Objs) && (letter == 'T') == (c.Objs[x-1].Type == api.TypeTask) && strings.ContainsRune("TIi", letter):
			next++
		default:
			t.Errorf("hook %d, word %d (%c): %d of %+v", c.Hook, i, letter, x, c.Objs)
		}
	}
	if int(next) != len(c.Objs)+1 {
		t.Errorf("hook %d: %d objects, %d of them in words", c.Hook, len(c.Objs), next-1)
	}
}

func TestDeepOnesShareNothing(t *testing.T) {
	c := Contexts(api.HookKill)[0]
	c.Objs = append(c.Objs, Inode(3))[:2]
	c.Objs[1].Up = append(c.Objs[1].Up, 8, 9)[:1]
	was, same := DeepContext(c), DeepContext(c)
	if len(was.Objs) < 3 || len(was.Objs[1].Up) < 5 || was.Words != c.Words || was.Hook != c.Hook || was.Now != c.Now {
		t.Fatalf("%+v of %+v", was, c)
	}
	c.Objs[:3][2].Path = "over"
	c.Objs[0].Up[0] = -1
	c.Objs[1].Up[:2][1] = -1
	if !reflect.DeepEqual(was, same) {
		t.Errorf("%+v is %+v", same, was)
	}
	if reflect.DeepEqual(was, DeepContext(c)) {
		t.Error("what was written over isn't seen")
	}
}
