package helpers

import (
	"bytes"
	"slices"
	"testing"

	"halberd/api"
	"halberd/samples"
)

// want is what the chapter says of a helper, written out by numbers.
type want struct {
	n    int
	name string
	args []byte
	maps []int
	ret  byte
}

func wanted() []want {
	return []want{
		{1, "lookup", []byte{1, 2}, []int{1, 2}, 2},
		{2, "update", []byte{1, 2, 3, 4}, []int{1, 2}, 1},
		{3, "delete", []byte{1, 2}, []int{2}, 1},
		{4, "inode_get", []byte{1, 5, 4}, []int{3}, 2},
		{5, "task_get", []byte{1, 6, 4}, []int{4}, 2},
		{6, "inode_del", []byte{1, 5}, []int{3}, 1},
		{7, "task_del", []byte{1, 6}, []int{4}, 1},
		{8, "reserve", []byte{1, 7}, []int{5}, 3},
		{9, "submit", []byte{9}, nil, 1},
		{10, "discard", []byte{9}, nil, 1},
		{11, "now", nil, nil, 1},
		{12, "path", []byte{5, 8, 7}, nil, 1},
		{13, "inside", []byte{6, 4}, nil, 1},
	}
}

// names has all names of helpers.
func names() []string {
	var l []string
	for _, w := range wanted() {
		l = append(l, w.name)
	}
	return l
}

// is tells whether what was told is what the chapter says.
func (w want) is(d api.HelperDef) bool {
	return d.Name == w.name && bytes.Equal(d.Args, w.args) && slices.Equal(d.Maps, w.maps) && d.Ret == w.ret
}

// isZero tells whether what was told is nothing.
func isZero(d api.HelperDef) bool {
	return want{}.is(d)
}

// hold holds all that is told of helpers, their names and kinds of maps against the table.
func hold(t *testing.T) {
	t.Helper()
	if Count() != 13 {
		t.Errorf("Count: %d", Count())
	}
	for _, w := range wanted() {
		if d, ok := Of(w.n); !w.is(d) || !ok {
			t.Errorf("Of(%d): %v, %v", w.n, d, ok)
		}
		holdName(t, w.name)
		for kind := range 7 {
			holdSuits(t, w.n, kind)
		}
	}
}

// holdName holds what is told of a name against the table.
func holdName(t *testing.T, name string) {
	t.Helper()
	n := 0
	for _, w := range wanted() {
		if w.name == name {
			n = w.n
		}
	}
	if got := By(name); got != n {
		t.Errorf("By(%.40q): %d, not %d", name, got, n)
	}
}

// holdSuits holds what is told of a helper and a kind of maps against the table.
func holdSuits(t *testing.T, n, kind int) {
	t.Helper()
	suits := false
	for _, w := range wanted() {
		suits = suits || w.n == n && slices.Contains(w.maps, kind)
	}
	if got := Suits(n, kind); got != suits {
		t.Errorf("Suits(%d, %d): %v", n, kind, got)
	}
}

func TestExamples(t *testing.T) { // P16.1, P16.2
	d, ok := Of(8)
	if d.Name != "reserve" || !bytes.Equal(d.Args, []byte{api.ArgMap, api.ArgConst}) || !slices.Equal(d.Maps, []int{api.MapRing}) || d.Ret != api.RetRec || !ok {
		t.Errorf("Of(8): %v, %v", d, ok)
	}
	if !Suits(8, api.MapRing) {
		t.Errorf("a ring doesn't suit 8")
	}
	if n := By("path"); n != 12 {
		t.Errorf("By path: %d", n)
	}
}

func TestEveryHelper(t *testing.T) { // P16.1, P16.2
	hold(t)
}

func TestArgumentsByTheirConstants(t *testing.T) { // P16.1
	for _, c := range []struct {
		name string
		args []byte
	}{
		{"lookup", []byte{api.ArgMap, api.ArgKey}},
		{"update", []byte{api.ArgMap, api.ArgKey, api.ArgValue, api.ArgNum}},
		{"delete", []byte{api.ArgMap, api.ArgKey}},
		{"inode_get", []byte{api.ArgMap, api.ArgInode, api.ArgNum}},
		{"task_get", []byte{api.ArgMap, api.ArgTask, api.ArgNum}},
		{"inode_del", []byte{api.ArgMap, api.ArgInode}},
		{"task_del", []byte{api.ArgMap, api.ArgTask}},
		{"reserve", []byte{api.ArgMap, api.ArgConst}},
		{"submit", []byte{api.ArgRec}},
		{"discard", []byte{api.ArgRec}},
		{"now", nil},
		{"path", []byte{api.ArgInode, api.ArgBuf, api.ArgConst}},
		{"inside", []byte{api.ArgTask, api.ArgNum}},
	} {
		if d, ok := Of(By(c.name)); d.Name != c.name || !bytes.Equal(d.Args, c.args) || !ok {
			t.Errorf("of %s: %v, %v", c.name, d, ok)
		}
	}
}

func TestMapsAndResultsByTheirConstants(t *testing.T) { // P16.1, P16.2
	for _, c := range []struct {
		name string
		maps []int
		ret  byte
	}{
		{"lookup", []int{api.MapArray, api.MapHash}, api.RetValue},
		{"update", []int{api.MapArray, api.MapHash}, api.RetNum},
		{"delete", []int{api.MapHash}, api.RetNum},
		{"inode_get", []int{api.MapInode}, api.RetValue},
		{"task_get", []int{api.MapTask}, api.RetValue},
		{"inode_del", []int{api.MapInode}, api.RetNum},
		{"task_del", []int{api.MapTask}, api.RetNum},
		{"reserve", []int{api.MapRing}, api.RetRec},
		{"submit", nil, api.RetNum},
		{"discard", nil, api.RetNum},
		{"now", nil, api.RetNum},
		{"path", nil, api.RetNum},
		{"inside", nil, api.RetNum},
	} {
		n := By(c.name)
		if d, ok := Of(n); !slices.Equal(d.Maps, c.maps) || d.Ret != c.ret || !ok {
			t.Errorf("of %s: %v, %v", c.name, d, ok)
		}
		for _, kind := range []int{api.MapArray, api.MapHash, api.MapInode, api.MapTask, api.MapRing} {
			if got := Suits(n, kind); got != slices.Contains(c.maps, kind) {
				t.Errorf("kind %d of %s: %v", kind, c.name, got)
			}
		}
	}
}

func TestNoHelper(t *testing.T) { // P16.1, P16.2
	for _, n := range append(samples.Outside(1, 13), 0, 14) {
		if d, ok := Of(n); !isZero(d) || ok {
			t.Errorf("Of(%d): %v, %v", n, d, ok)
		}
		for _, kind := range append(samples.Ends(), 3, 4, 5, 6) {
			if Suits(n, kind) {
				t.Errorf("Suits(%d, %d)", n, kind)
			}
		}
	}
}

func TestKindsThatAreNone(t *testing.T) { // P16.2
	for _, w := range wanted() {
		for _, kind := range append(samples.Outside(1, 5), 0, 6) {
			if Suits(w.n, kind) {
				t.Errorf("Suits(%d, %d)", w.n, kind)
			}
		}
	}
}

func TestEachKindThatIsToldSuits(t *testing.T) { // P16.1, P16.2
	for n := range 20 {
		d, _ := Of(n)
		for kind := -2; kind <= 9; kind++ {
			if Suits(n, kind) != slices.Contains(d.Maps, kind) {
				t.Errorf("Suits(%d, %d): %v, of %v", n, kind, Suits(n, kind), d.Maps)
			}
		}
		if len(d.Maps) > 0 != bytes.Contains(d.Args, []byte{api.ArgMap}) {
			t.Errorf("Of(%d): kinds of maps %v, arguments %v", n, d.Maps, d.Args)
		}
	}
}

func TestNamesThatAreAlmostRight(t *testing.T) { // P16.1
	for _, name := range names() {
		for _, s := range samples.Almost(name) {
			holdName(t, s)
		}
		for _, other := range names() {
			holdName(t, name+other)
			holdName(t, name+"_"+other)
		}
	}
}

func TestNamesThatAreNone(t *testing.T) { // P16.1
	for _, name := range append(samples.NoNames(),
		"Lookup", "LOOKUP", "Now", "nOW", "l\u043eokup", "inode", "task", "inode_", "task_", "_get", "_del", "get", "del", "inode get", "inode-get", "inodeget", "inode_put", "task_put",
		"task_inode", "hook_get", "open", "kill", "map", "key", "value", "number", "record", "lookups", "submitted", "paths", "insider", "in", "side", "know", "snow", "now\x00", "path\u200b",
	) {
		if n := By(name); n != 0 {
			t.Errorf("By(%.40q): %d", name, n)
		}
	}
}

func TestAllNamesOfFewLetters(t *testing.T) { // P16.1
	for letters := range 5 {
		for _, name := range samples.Texts(letters) {
			if n := By(name); n != 0 && !(name == "now" && n == 11) && !(name == "path" && n == 12) {
				t.Fatalf("By(%q): %d", name, n)
			}
		}
	}
}

// writeOver turns all that can be reached from what was told of a helper, room behind its lists too.
func writeOver(d *api.HelperDef) {
	for range 2 {
		samples.TurnAll(d.Args[:cap(d.Args)])
		maps := d.Maps[:cap(d.Maps)]
		for i := range maps {
			maps[i] = 5 - maps[i]
		}
		d.Args, d.Maps = append(d.Args, 9, 9, 9), append(d.Maps, 1, 2, 3)
	}
	d.Name, d.Ret = "none", 99
}

func TestWhatWasToldIsWrittenOver(t *testing.T) { // P16.1, P16.2
	for _, w := range wanted() {
		d, _ := Of(w.n)
		was, _ := Of(w.n)
		writeOver(&d)
		hold(t)
		if !w.is(was) {
			t.Errorf("helper %d, told ahead, is %v", w.n, was)
		}
	}
	none, _ := Of(0)
	writeOver(&none)
	if d, ok := Of(0); !isZero(d) || ok || Suits(0, 1) {
		t.Errorf("Of(0): %v, %v", d, ok)
	}
}

func TestHelpersShareNothing(t *testing.T) { // P16.1
	var all []api.HelperDef
	for _, w := range wanted() {
		d, _ := Of(w.n)
		all = append(all, d)
	}
	for i := range all {
		writeOver(&all[i])
		for _, w := range wanted()[i+1:] {
			if d := all[w.n-1]; !w.is(d) {
				t.Errorf("helper %d is %v, as helper %d is written over", w.n, d, i+1)
			}
		}
		hold(t)
	}
}

func TestNothingHangsOnWhatWasAskedAhead(t *testing.T) { // P16.1, P16.2
	seed := uint64(3)
	for range 200 {
		for _, i := range samples.Shuffled(13, &seed) {
			w := wanted()[i]
			By(names()[samples.Below(&seed, 13)])
			Suits(samples.Below(&seed, 16)-1, samples.Below(&seed, 8)-1)
			Of(samples.Below(&seed, 16) - 1)
			if d, ok := Of(w.n); !w.is(d) || !ok {
				t.Fatalf("Of(%d): %v, %v", w.n, d, ok)
			}
			holdSuits(t, w.n, samples.Below(&seed, 7))
			holdName(t, w.name)
		}
	}
}
