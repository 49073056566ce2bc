package hooks

import (
	"bytes"
	"slices"
	"testing"

	"halberd/api"
	"halberd/samples"
)

// want is what the chapter says of a hook, written out by numbers.
type want struct {
	hook  int
	name  string
	words []byte
	most  uint64
}

func wanted() []want {
	return []want{
		{1, "open", []byte{1, 2, 0}, 40},
		{2, "access", []byte{1, 2, 0}, 40},
		{3, "create", []byte{1, 2, 0, 0}, 40},
		{4, "link", []byte{1, 2, 2}, 40},
		{5, "unlink", []byte{1, 2, 2, 0}, 40},
		{6, "rename", []byte{1, 2, 2, 2, 6}, 40},
		{7, "setattr", []byte{1, 2, 0, 0, 0}, 40},
		{8, "exec", []byte{1, 2, 6}, 40},
		{9, "mmap", []byte{1, 6, 0}, 40},
		{10, "mprotect", []byte{1, 6, 0, 0}, 40},
		{11, "fork", []byte{1, 0}, 12},
		{12, "kill", []byte{1, 1, 0}, 1},
		{13, "ptrace", []byte{1, 1, 0}, 1},
		{14, "setid", []byte{1, 0, 0}, 1},
		{15, "chdir", []byte{1, 2}, 40},
		{16, "getattr", []byte{1, 2, 0}, 40},
	}
}

// place is where a field of an object stands.
type place struct {
	typ  int
	name string
	at   int
}

func places() []place {
	return []place{
		{1, "pid", 0}, {1, "ppid", 8}, {1, "uid", 16}, {1, "gid", 24}, {1, "exe", 32}, {1, "gen", 40}, {1, "tracer", 48}, {1, "files", 56},
		{2, "ino", 0}, {2, "kind", 8}, {2, "mode", 16}, {2, "uid", 24}, {2, "gid", 32}, {2, "links", 40}, {2, "size", 48}, {2, "gen", 56},
	}
}

// names has all names of hooks and of fields.
func names() []string {
	var l []string
	for _, w := range wanted() {
		l = append(l, w.name)
	}
	for _, p := range places() {
		l = append(l, p.name)
	}
	return l
}

// hookOf tells which hook has a name; 0, if none has.
func hookOf(name string) int {
	for _, w := range wanted() {
		if w.name == name {
			return w.hook
		}
	}
	return 0
}

// placeOf tells where a field stands; 0 and false, if there is none.
func placeOf(typ int, name string) (int, bool) {
	for _, p := range places() {
		if p.typ == typ && p.name == name {
			return p.at, true
		}
	}
	return 0, false
}

// hold holds all that is told of hooks and fields against the tables.
func hold(t *testing.T) {
	t.Helper()
	if Count() != 16 {
		t.Errorf("Count: %d", Count())
	}
	for _, w := range wanted() {
		d, ok := Of(w.hook)
		if d.Name != w.name || !bytes.Equal(d.Words, w.words) || d.Max != w.most || !ok {
			t.Errorf("Of(%d): %v, %v", w.hook, d, ok)
		}
		holdName(t, w.name)
		for i := range w.words {
			holdKind(t, w.hook, i)
		}
	}
	for _, p := range places() {
		holdName(t, p.name)
	}
}

// holdKind holds what is told of a hook's word against the table.
func holdKind(t *testing.T, hook, word int) {
	t.Helper()
	kind, there := byte(0), false
	for _, w := range wanted() {
		if w.hook == hook && word >= 0 && word < len(w.words) {
			kind, there = w.words[word], true
		}
	}
	if got, ok := Kind(hook, word); got != kind || ok != there {
		t.Errorf("Kind(%d, %d): %d, %v, not %d, %v", hook, word, got, ok, kind, there)
	}
}

// holdName holds what is told of a name, as a hook's and as a field's of either type, against the tables.
func holdName(t *testing.T, name string) {
	t.Helper()
	if got := By(name); got != hookOf(name) {
		t.Errorf("By(%q): %d, not %d", name, got, hookOf(name))
	}
	for _, typ := range []int{1, 2} {
		at, there := placeOf(typ, name)
		if got, ok := Field(typ, name); got != at || ok != there {
			t.Errorf("Field(%d, %q): %d, %v, not %d, %v", typ, name, got, ok, at, there)
		}
	}
}

func TestExamples(t *testing.T) { // P15.1, P15.2
	d, ok := Of(12)
	if d.Name != "kill" || d.Max != 1 || !bytes.Equal(d.Words, []byte{api.WordTask, api.WordTask, api.WordNum}) || !ok {
		t.Errorf("Of(12): %v, %v", d, ok)
	}
	if hook := By("open"); hook != 1 {
		t.Errorf("By open: %d", hook)
	}
	if at, ok := Field(api.TypeInode, "mode"); at != 16 || !ok {
		t.Errorf("Field of an inode's mode: %d, %v", at, ok)
	}
}

func TestEveryHookAndField(t *testing.T) { // P15.1, P15.2
	hold(t)
}

func TestHooksByTheirConstants(t *testing.T) { // P15.1
	for i, hook := range []int{
		api.HookOpen, api.HookAccess, api.HookCreate, api.HookLink, api.HookUnlink, api.HookRename, api.HookSetattr, api.HookExec,
		api.HookMmap, api.HookMprotect, api.HookFork, api.HookKill, api.HookPtrace, api.HookSetid, api.HookChdir, api.HookGetattr,
	} {
		w := wanted()[i]
		if d, ok := Of(hook); d.Name != w.name || !ok || By(w.name) != hook {
			t.Errorf("Of(%d): %v, %v; By(%s): %d", hook, d, ok, w.name, By(w.name))
		}
	}
}

func TestNoHook(t *testing.T) { // P15.1, P15.2
	for _, hook := range append(samples.Outside(1, 16), 0, 17) {
		if d, ok := Of(hook); d.Name != "" || len(d.Words) != 0 || d.Max != 0 || ok {
			t.Errorf("Of(%d): %v, %v", hook, d, ok)
		}
		for word := -1; word <= 8; word++ {
			holdKind(t, hook, word)
		}
		for _, word := range samples.Ends() {
			holdKind(t, hook, word)
		}
	}
}

func TestWordsThatAHookHasNot(t *testing.T) { // P15.2
	for _, w := range wanted() {
		last := len(w.words) - 1
		if _, ok := Kind(w.hook, last); !ok {
			t.Errorf("Kind(%d, %d), of the last word: false", w.hook, last)
		}
		for _, word := range append(samples.Outside(0, last), -1, last+1) {
			if kind, ok := Kind(w.hook, word); kind != 0 || ok {
				t.Errorf("Kind(%d, %d): %d, %v", w.hook, word, kind, ok)
			}
		}
	}
}

func TestKindsByTheirConstants(t *testing.T) { // P15.2
	for _, c := range []struct {
		hook, word int
		kind       byte
	}{
		{api.HookSetattr, 4, api.WordNum}, {api.HookFork, 1, api.WordNum}, {api.HookKill, 1, api.WordTask}, {api.HookChdir, 0, api.WordTask},
		{api.HookChdir, 1, api.WordInode}, {api.HookRename, 3, api.WordInode}, {api.HookRename, 4, api.WordInode | api.MayBeNull},
		{api.HookExec, 2, api.WordInode | api.MayBeNull}, {api.HookMmap, 1, api.WordInode | api.MayBeNull}, {api.HookMprotect, 1, api.WordInode | api.MayBeNull},
	} {
		if kind, ok := Kind(c.hook, c.word); kind != c.kind || !ok {
			t.Errorf("Kind(%d, %d): %d, %v, not %d", c.hook, c.word, kind, ok, c.kind)
		}
	}
}

func TestFieldsOfTheOtherType(t *testing.T) { // P15.2
	for _, c := range []struct {
		name        string
		task, inode int // -1: it has none
	}{
		{"pid", 0, -1}, {"ppid", 8, -1}, {"exe", 32, -1}, {"tracer", 48, -1}, {"files", 56, -1},
		{"ino", -1, 0}, {"kind", -1, 8}, {"mode", -1, 16}, {"links", -1, 40}, {"size", -1, 48},
		{"uid", 16, 24}, {"gid", 24, 32}, {"gen", 40, 56},
	} {
		for typ, at := range map[int]int{api.TypeTask: c.task, api.TypeInode: c.inode} {
			got, ok := Field(typ, c.name)
			if ok != (at >= 0) || got != max(at, 0) {
				t.Errorf("Field(%d, %s): %d, %v, not %d", typ, c.name, got, ok, at)
			}
		}
	}
}

func TestFieldsOfNoType(t *testing.T) { // P15.2
	for _, typ := range append(samples.Outside(1, 2), 0, 3) {
		for _, name := range append(names(), "", "\x00", "f") {
			if at, ok := Field(typ, name); at != 0 || ok {
				t.Errorf("Field(%d, %q): %d, %v", typ, name, at, ok)
			}
		}
	}
}

func TestNamesThatAreAlmostRight(t *testing.T) { // P15.1, P15.2
	for _, name := range names() {
		for _, s := range samples.Almost(name) {
			holdName(t, s)
		}
		for _, other := range names() {
			holdName(t, name+other)
		}
	}
}

func TestNamesThatAreNone(t *testing.T) { // P15.1, P15.2
	for _, name := range append(samples.NoNames(),
		"Open", "OPEN", "oPEN", "\u043epen", "read", "write", "close", "stat", "setuid", "owner", "type",
		"task", "inode", "number", "null", "generation", "ino\x00", "open\u200b",
	) {
		if hook := By(name); hook != 0 {
			t.Errorf("By(%.40q): %d", name, hook)
		}
		for _, typ := range []int{1, 2} {
			if at, ok := Field(typ, name); at != 0 || ok {
				t.Errorf("Field(%d, %.40q): %d, %v", typ, name, at, ok)
			}
		}
	}
}

func TestAllNamesOfFewLetters(t *testing.T) { // P15.1, P15.2
	right := names()
	for letters := range 5 {
		for _, name := range samples.Texts(letters) {
			_, task := Field(1, name)
			_, inode := Field(2, name)
			if (By(name) != 0 || task || inode) && !slices.Contains(right, name) {
				t.Fatalf("%q: By %d, Field %v, %v", name, By(name), task, inode)
			}
		}
	}
}

// writeOver turns all that can be reached from what was told of a hook, room behind its words too.
func writeOver(d *api.HookDef) {
	samples.TurnAll(d.Words[:cap(d.Words)])
	d.Words = append(d.Words, 9, 9, 9)
	samples.TurnAll(d.Words[:cap(d.Words)])
	d.Name, d.Max = "none", 99
}

func TestWhatWasToldIsWrittenOver(t *testing.T) { // P15.1, P15.2
	for _, w := range wanted() {
		d, _ := Of(w.hook)
		was, _ := Of(w.hook)
		writeOver(&d)
		hold(t)
		if was.Name != w.name || !bytes.Equal(was.Words, w.words) || was.Max != w.most {
			t.Errorf("hook %d, told ahead, is %v", w.hook, was)
		}
	}
	var all []api.HookDef
	for _, w := range wanted() {
		d, _ := Of(w.hook)
		all = append(all, d)
	}
	for i := range all {
		writeOver(&all[i])
		for j, w := range wanted()[i+1:] {
			if d := all[i+1+j]; !bytes.Equal(d.Words, w.words) {
				t.Errorf("hook %d is %v, as hook %d is written over", w.hook, d, i+1)
			}
		}
		hold(t)
	}
	none, _ := Of(0)
	writeOver(&none)
	if d, ok := Of(0); d.Name != "" || len(d.Words) != 0 || d.Max != 0 || ok {
		t.Errorf("Of(0): %v, %v", d, ok)
	}
}

func TestNothingHangsOnWhatWasAskedAhead(t *testing.T) { // P15.1, P15.2
	seed := uint64(2)
	for range 200 {
		for _, i := range samples.Shuffled(16, &seed) {
			w := wanted()[i]
			By(names()[samples.Below(&seed, 32)])
			Field(samples.Below(&seed, 4), names()[samples.Below(&seed, 32)])
			Of(samples.Below(&seed, 20) - 1)
			if d, ok := Of(w.hook); d.Name != w.name || !slices.Equal(d.Words, w.words) || d.Max != w.most || !ok {
				t.Fatalf("Of(%d): %v, %v", w.hook, d, ok)
			}
			holdKind(t, w.hook, samples.Below(&seed, 8))
			holdName(t, w.name)
		}
	}
}
