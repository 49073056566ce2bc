// Package steps has runs of layer 18 told once more, step by step, so that what registers and the stack have is seen, for the tests of the layers' packages; none of these calls it.
package steps

import (
	"slices"

	"halberd/alu"
	"halberd/api"
	"halberd/isa"
	"halberd/objs"
	"halberd/owned"
	"halberd/ring"
)

// Value is nothing (its zero value), "num", "stack", "ctx", "obj", "slot", "rec" or "map".
type Value struct {
	What string
	Num  uint64
	Off  int64
	// No is the number of an object, a record or a map; of a slot its map's, and Slot its own.
	No, Slot int
}

// Points is false of a map.
func (x Value) Points() bool {
	return slices.Contains([]string{"stack", "ctx", "obj", "slot", "rec"}, x.What)
}

// Cell is a byte of the stack: nothing, a number's "byte", or a "piece" of what its eight cells have together.
type Cell struct {
	What  string
	B     byte
	Piece Value
}

// Run is one that is under way.
type Run struct {
	Code    []api.Inst
	Context api.Context
	Maps    *owned.Owned
	Ring    *ring.Ring
	Owner   int

	At, Steps int
	Done      bool
	Regs      [11]Value
	Cells     [64]Cell
	// Mine are the records that it holds.
	Mine []int
}

// Result goes on till the end, as vm's Run must, also with what it turns.
func Result(l []api.Inst, c api.Context, o *owned.Owned, r *ring.Ring, owner int) api.Result {
	maps := 0
	for o != nil {
		if _, ok := o.Def(maps); !ok {
			break
		}
		maps++
	}
	if isa.Check(l, maps) != api.OK || !objs.Right(c) {
		return api.Result{Trap: 7}
	}
	x := Begin(l, c, o, r, owner)
	for {
		if x.Steps == 64 {
			x.drop()
			return api.Result{Trap: 6, Steps: 64}
		}
		if trap := x.Step(); trap != 0 {
			x.drop()
			return api.Result{Trap: trap, Steps: x.Steps}
		}
		if x.Done {
			return api.Result{Ret: x.Regs[0].Num, Steps: x.Steps}
		}
	}
}

func Begin(l []api.Inst, c api.Context, o *owned.Owned, r *ring.Ring, owner int) *Run {
	x := &Run{Code: l, Context: c, Maps: o, Ring: r, Owner: owner}
	x.Regs[1], x.Regs[10] = Value{What: "ctx"}, Value{What: "stack"}
	return x
}

func (x *Run) drop() {
	for _, id := range x.Mine {
		x.Ring.Discard(id)
	}
}

// Copy has maps and a ring of its own.
func (x *Run) Copy() *Run {
	c := *x
	c.Code, c.Mine = slices.Clone(x.Code), slices.Clone(x.Mine)
	c.Maps, c.Ring = x.Maps.Copy(), x.Ring.Copy()
	return &c
}

// Step does the next one, and tells its trap; 0 without one.
func (x *Run) Step() int {
	i := x.Code[x.At]
	x.At++
	x.Steps++
	second := Value{What: "num", Num: uint64(int64(i.Imm))}
	switch class := i.Op & 7; class {
	case 0:
		n := uint64(uint32(i.Imm)) + uint64(uint32(x.Code[x.At].Imm))<<32
		x.Regs[i.Dst] = Value{What: "num", Num: n}
		if i.Src == 1 {
			x.Regs[i.Dst] = Value{What: "map", No: int(n)}
		}
		x.At++
	case 1:
		got, trap := x.load(x.Regs[i.Src], int64(i.Off), sizeOf(i.Op))
		if trap != 0 {
			return trap
		}
		x.Regs[i.Dst] = got
	case 2:
		return x.store(x.Regs[i.Dst], int64(i.Off), sizeOf(i.Op), second)
	case 3:
		return x.store(x.Regs[i.Dst], int64(i.Off), sizeOf(i.Op), x.Regs[i.Src])
	default:
		if i.Op&8 != 0 {
			second = x.Regs[i.Src]
		}
		if class == 5 || class == 6 {
			return x.jump(i, second)
		}
		return x.operate(i, second)
	}
	return 0
}

func sizeOf(op byte) int {
	return map[byte]int{0x00: 4, 0x08: 2, 0x10: 1, 0x18: 8}[op&0x18]
}

func (x *Run) operate(i api.Inst, b Value) int {
	a, op, wide := x.Regs[i.Dst], i.Op&0xF0, i.Op&7 == 7
	if op == 0xB0 {
		// A number, as what is written over may be anything.
		a = Value{What: "num"}
	}
	switch {
	case a.What == "" || b.What == "":
		return 1
	case op == 0xB0 && wide:
		x.Regs[i.Dst] = b
	case op == 0x00 && wide && a.Points() && b.What == "num":
		x.Regs[i.Dst].Off += int64(b.Num)
	case op == 0x10 && wide && a.Points() && b.What == "num":
		x.Regs[i.Dst].Off -= int64(b.Num)
	case a.What != "num" || b.What != "num":
		return 3
	default:
		n, _ := alu.Do(op, wide, a.Num, b.Num)
		x.Regs[i.Dst] = Value{What: "num", Num: n}
	}
	return 0
}

func (x *Run) jump(i api.Inst, b Value) int {
	switch i.Op {
	case 0x05:
		x.At += int(i.Off)
		return 0
	case 0x85:
		return x.call(int(i.Imm))
	case 0x95:
		return x.exit()
	}
	a, op, wide := x.Regs[i.Dst], i.Op&0xF0, i.Op&7 == 5
	taken := false
	switch {
	case a.What == "" || b.What == "":
		return 1
	case a.What == "num" && b.What == "num":
		taken, _ = alu.Holds(op, wide, a.Num, b.Num)
	case (i.Op == 0x15 || i.Op == 0x55) && i.Imm == 0 && a.Points():
		taken = i.Op == 0x55
	default:
		return 3
	}
	if taken {
		x.At += int(i.Off)
	}
	return 0
}

func (x *Run) exit() int {
	switch {
	case x.Regs[0].What == "":
		return 1
	case x.Regs[0].What != "num":
		return 3
	case len(x.Mine) > 0:
		return 5
	}
	x.Done = true
	return 0
}
