package vm

import (
	"reflect"
	"slices"
	"strings"
	"testing"

	"halberd/api"
	"halberd/asm"
	"halberd/owned"
	"halberd/ring"
	"halberd/samples"
	"halberd/steps"
)

// bench is what codes run with.
type bench struct {
	c     api.Context
	o     *owned.Owned
	r     *ring.Ring
	owner int
}

// Maps of each kind.
var (
	anArray = api.MapDef{Kind: api.MapArray, Key: 4, Value: 8, Max: 2}
	aHash   = api.MapDef{Kind: api.MapHash, Key: 2, Value: 4, Max: 2}
	inodes  = api.MapDef{Kind: api.MapInode, Value: 12, Max: 1}
	tasks   = api.MapDef{Kind: api.MapTask, Value: 8, Max: 2}
	audits  = api.MapDef{Kind: api.MapRing}
)

// benchOf has a whole ring, and a context with a task, an inode, and the numbers 42 and 43.
func benchOf(t *testing.T, defs ...api.MapDef) *bench {
	t.Helper()
	o, err := owned.New(defs)
	r, ringErr := ring.New(api.RingSize)
	if err != api.OK || ringErr != api.OK {
		t.Fatalf("no maps of %v: %d", defs, err)
	}
	return &bench{c: samples.Contexts(api.HookCreate)[0], o: o, r: r, owner: 5}
}

// usual has an array, a hash, a storage of inodes and a ring.
func usual(t *testing.T) *bench {
	t.Helper()
	return benchOf(t, anArray, aHash, inodes, audits)
}

// copied has the same context, which no run may turn.
func (b *bench) copied() *bench {
	return &bench{c: b.c, o: b.o.Copy(), r: b.r.Copy(), owner: b.owner}
}

// left is all that a run may turn.
func (b *bench) left() string {
	return string(b.o.Bytes()) + "|" + string(b.r.Bytes()) + "|" + strings.Repeat("x", b.r.Drops())
}

// code reads lines, between which there is a semicolon.
func code(t *testing.T, lines string) []api.Inst {
	t.Helper()
	l, err := asm.Read(strings.ReplaceAll(lines, "; ", "\n"))
	if err != api.OK {
		t.Fatalf("no code: %q", lines)
	}
	return l
}

// run holds a run against the one that is told once more, and tells its result.
func (b *bench) run(t *testing.T, l []api.Inst) api.Result {
	t.Helper()
	other, was, kept := b.copied(), samples.DeepContext(b.c), slices.Clone(l)
	want := steps.Result(l, other.c, other.o, other.r, other.owner)
	got := Run(l, b.c, b.o, b.r, b.owner)
	if got != want {
		t.Fatalf("%s: %+v, not %+v", textOf(l), got, want)
	}
	if b.left() != other.left() {
		t.Fatalf("%s: it leaves %q, not %q", textOf(l), b.left(), other.left())
	}
	if now := samples.DeepContext(b.c); !reflect.DeepEqual(now, was) || !slices.Equal(l, kept) {
		t.Fatalf("%s: it turns what is handed in: %+v", textOf(kept), now)
	}
	return got
}

// textOf tells a code as text, where it has one.
func textOf(l []api.Inst) string {
	s, err := asm.Text(l)
	if err != api.OK {
		return "a code that has no text"
	}
	return strings.ReplaceAll(strings.TrimSpace(s), "\n", "; ")
}

// tells runs lines, whose result must be so.
func (b *bench) tells(t *testing.T, lines string, ret uint64, steps int) {
	t.Helper()
	if got := b.run(t, code(t, lines)); got != (api.Result{Ret: ret, Steps: steps}) {
		t.Errorf("%q: %+v, not %d in %d steps", lines, got, ret, steps)
	}
}

// traps runs lines, which must trap.
func (b *bench) traps(t *testing.T, lines string, trap, steps int) {
	t.Helper()
	if got := b.run(t, code(t, lines)); got != (api.Result{Trap: trap, Steps: steps}) {
		t.Errorf("%q: %+v, not trap %d in %d steps", lines, got, trap, steps)
	}
}

// way is lines that bring a value into register 6, and how many steps they take.
type way struct {
	name, lines string
	steps       int
}

// pointers has ways to each kind of pointer, for the usual bench; the record is held.
func pointers() []way {
	return []way{
		{"the stack", "mov r6, r10", 1},
		{"the context", "mov r6, r1", 1},
		{"a task", "ld8 r6, [r1+0]", 1},
		{"an inode", "ld8 r6, [r1+8]", 1},
		{"an array's slot", "st4 [r10-4], 1; mov r7, r1; map r1, 0; mov r2, r10; add r2, -4; call 1; mov r6, r0; mov r1, r7", 8},
		{"a hash's slot", "st4 [r10-4], 9; mov r7, r1; map r1, 1; mov r2, r10; add r2, -4; mov r3, r2; mov r4, 0; call 2; map r1, 1; mov r2, r10; add r2, -4; call 1; mov r6, r0; mov r1, r7", 14},
		{"an inode's slot", "mov r7, r1; ld8 r2, [r1+8]; map r1, 2; mov r3, 1; call 4; mov r6, r0; mov r1, r7", 7},
		{"a record", "mov r7, r1; map r1, 3; mov r2, 16; call 8; mov r6, r0; mov r1, r7", 6},
	}
}

// nonNumbers has ways to each kind of pointer, and to a map.
func nonNumbers() []way {
	return append(pointers(), way{"a map", "map r6, 0", 1})
}

// ended tells lines that end with 0, whatever is held: a record in register 6 is thrown away.
func ended(w way) (string, int) {
	if w.name == "a record" {
		return "mov r1, r6; call 10; exit", 3
	}
	return "mov r0, 0; exit", 2
}

// withRoom tells the same code, with instructions behind its end that mustn't be looked at.
func withRoom(l []api.Inst) []api.Inst {
	return append(append(make([]api.Inst, 0, len(l)+2), l...), api.Inst{Op: 0xFF}, api.Inst{Op: 0xB7, Imm: 77})[:len(l)]
}
