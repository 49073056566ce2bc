package steps

import (
	"slices"
	"testing"

	"halberd/api"
	"halberd/asm"
	"halberd/owned"
	"halberd/ring"
	"halberd/samples"
)

// begun has a context with a task, an inode and numbers, an array and a ring.
func begun(t *testing.T, lines string) *Run {
	t.Helper()
	l, err := asm.Read(lines)
	if err != api.OK {
		t.Fatalf("no code: %q", lines)
	}
	o, _ := owned.New([]api.MapDef{{Kind: api.MapArray, Key: 4, Value: 8, Max: 1}, {Kind: api.MapRing}})
	r, _ := ring.New(40)
	return Begin(l, samples.Contexts(api.HookCreate)[0], o, r, 5)
}

// stepped does so many steps, none of which may trap.
func stepped(t *testing.T, x *Run, n int) {
	t.Helper()
	for k := range n {
		if trap := x.Step(); trap != 0 {
			t.Fatalf("step %d: trap %d", k, trap)
		}
	}
}

func TestWhatStepsLeaveIsSeen(t *testing.T) {
	x := begun(t, "ld8 r6, [r1+0]\nst8 [r10-8], r6\nst2 [r10-12], 513\nmap r1, 1\nmov r2, 3\ncall 8\nmov r7, r10\nadd r7, -5\nexit\n")
	if x.Regs[1] != (Value{What: "ctx"}) || x.Regs[10] != (Value{What: "stack"}) || x.At != 0 {
		t.Errorf("at the beginning: at %d, %+v", x.At, x.Regs)
	}
	stepped(t, x, 6)
	piece := Cell{What: "piece", Piece: Value{What: "obj"}}
	if !slices.Equal(x.Cells[50:], []Cell{{}, {}, {What: "byte", B: 1}, {What: "byte", B: 2}, {}, {}, piece, piece, piece, piece, piece, piece, piece, piece}) {
		t.Errorf("the stack: %+v", x.Cells)
	}
	if x.Regs[0] != (Value{What: "rec"}) || !slices.Equal(x.Mine, []int{0}) || x.Regs[1] != (Value{}) {
		t.Errorf("behind reserve: %+v, held %v", x.Regs, x.Mine)
	}
	stepped(t, x, 2)
	if x.Regs[7] != (Value{What: "stack", Off: -5}) || x.At != 9 || x.Steps != 8 || x.Done {
		t.Errorf("ahead of the end: at %d, %+v", x.At, x.Regs)
	}
	if trap := x.Step(); trap != api.TrapType || x.Done {
		t.Errorf("the end: trap %d", trap)
	}
}

func TestCopiesGoTheirOwnWay(t *testing.T) {
	x := begun(t, "map r1, 1\nmov r2, 3\ncall 8\nmov r1, r0\ncall 9\nexit\n")
	stepped(t, x, 3)
	c := x.Copy()
	stepped(t, c, 3)
	c.Code[3].Imm = 7
	if !c.Done || len(c.Mine) != 0 || c.At != 7 {
		t.Errorf("the copy: at %d, held %v", c.At, c.Mine)
	}
	if x.Done || !slices.Equal(x.Mine, []int{0}) || !slices.Equal(x.Ring.Held(), []int{0}) || x.Code[3].Imm != 8 || x.At != 4 {
		t.Errorf("what was copied: at %d, %v, held %v", x.At, x.Code, x.Mine)
	}
	stepped(t, x, 3)
	if string(x.Ring.Bytes()) != string(c.Ring.Bytes()) {
		t.Errorf("rings: %q and %q", x.Ring.Bytes(), c.Ring.Bytes())
	}
}

func TestResultThrowsAwayWhatIsHeld(t *testing.T) {
	x := begun(t, "map r1, 1\nmov r2, 3\ncall 8\nmov r0, 2\nexit\n")
	if got := Result(x.Code, x.Context, x.Maps, x.Ring, 5); got != (api.Result{Trap: api.TrapLeak, Steps: 5}) || len(x.Ring.Held()) != 0 {
		t.Errorf("%+v, held %v", got, x.Ring.Held())
	}
	x = begun(t, "mov r0, 2\nexit\n")
	if got := Result(x.Code, x.Context, x.Maps, x.Ring, 5); got != (api.Result{Ret: 2, Steps: 2}) {
		t.Errorf("%+v", got)
	}
	if got := Result(x.Code[:1], x.Context, x.Maps, x.Ring, 5); got != (api.Result{Trap: api.TrapCode}) {
		t.Errorf("without an end: %+v", got)
	}
}

func TestPointersAreSixKindsLessMaps(t *testing.T) {
	for what, points := range map[string]bool{"": false, "num": false, "map": false, "stack": true, "ctx": true, "obj": true, "slot": true, "rec": true} {
		if (Value{What: what}).Points() != points {
			t.Errorf("does %q point?", what)
		}
	}
}
