package samples

import (
	"slices"
	"strconv"

	"halberd/api"
)

// Shapes tells the words of each hook by letters: T a task, I an inode, i an inode or null, n a number; - is none.
func Shapes() map[int]string {
	return map[int]string{
		1: "TIn-----", 2: "TIn-----", 3: "TInn----", 4: "TII-----", 5: "TIIn----", 6: "TIIIi---", 7: "TInnn---", 8: "TIi-----",
		9: "Tin-----", 10: "Tinn----", 11: "Tn------", 12: "TTn-----", 13: "TTn-----", 14: "Tnn-----", 15: "TI------", 16: "TIn-----",
	}
}

// Task tells one, other ones by other numbers; no two of its fields are the same.
func Task(n int) api.Obj {
	o := api.Obj{Type: api.TypeTask, Key: api.Key{Id: n, Gen: n + 100}, Up: []int{n, n + 1, n + 2}}
	for i := range o.F {
		o.F[i] = uint64(n)<<56 + uint64(i)<<8 + 1
	}
	return o
}

// Inode tells one, other ones by other numbers; but for its path it has what the task of its number has.
func Inode(n int) api.Obj {
	o := Task(n)
	o.Type, o.Path, o.Up = api.TypeInode, "/dir/"+strconv.Itoa(n), nil
	return o
}

// Contexts has right contexts of a hook: with each of its words that may be null null, and with none null. Numbers differ from word to word, objects too.
func Contexts(hook int) []api.Context {
	l := []api.Context{{Hook: hook, Now: 7}}
	for i, letter := range Shapes()[hook] {
		var longer []api.Context
		for _, c := range l {
			switch letter {
			case 'n':
				c.Words[i] = uint64(40 + i)
			case 'T':
				c = withObj(c, i, Task(10+i))
			case 'I':
				c = withObj(c, i, Inode(10+i))
			case 'i':
				longer = append(longer, c)
				c = withObj(c, i, Inode(10+i))
			}
			longer = append(longer, c)
		}
		l = longer
	}
	return l
}

// withObj tells a context with one more object, that its word i has.
func withObj(c api.Context, i int, o api.Obj) api.Context {
	c.Objs = append(slices.Clip(c.Objs), o)
	c.Words[i] = uint64(len(c.Objs))
	return c
}

// AllContexts has those of all hooks.
func AllContexts() []api.Context {
	var l []api.Context
	for hook := range len(Shapes()) {
		l = append(l, Contexts(hook+1)...)
	}
	return l
}

// DeepContext tells the same context, of which nothing is shared, with what stands in the room behind its lists.
func DeepContext(c api.Context) api.Context {
	objs := c.Objs[:cap(c.Objs)]
	c.Objs = make([]api.Obj, len(objs))
	for i, o := range objs {
		c.Objs[i] = DeepObj(o)
	}
	return c
}

// DeepObj tells the same object, whose list is its own and has what stands in the room behind it, too.
func DeepObj(o api.Obj) api.Obj {
	o.Up = append([]int(nil), o.Up[:cap(o.Up)]...)
	return o
}
