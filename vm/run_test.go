package vm

import (
	"math"
	"slices"
	"strconv"
	"testing"

	"halberd/alu"
	"halberd/api"
	"halberd/inst"
	"halberd/owned"
	"halberd/samples"
)

var exit = api.Inst{Op: api.ClassJmp | api.Exit}

// wide tells the two instructions that bring a number into a register.
func wide(reg byte, x uint64) []api.Inst {
	p := inst.Pair(api.LdWide, reg, 0, x)
	return p[:]
}

func TestTheChaptersExamples(t *testing.T) { // P18.1
	b := usual(t)
	b.tells(t, "mov r0, 5; exit", 5, 2)
	b.traps(t, "exit", api.TrapRead, 1)
	for _, c := range samples.AllContexts() {
		b.c = c
		b.traps(t, "ld8 r0, [r1+0]; exit", api.TrapType, 2)
	}
}

func TestWhatARunEndsWith(t *testing.T) { // P18.1
	b := usual(t)
	b.tells(t, "mov r0, 0; exit", 0, 2)
	b.tells(t, "mov r0, 1; exit", 1, 2)
	b.tells(t, "mov r0, -1; exit", math.MaxUint64, 2)
	b.tells(t, "mov32 r0, -1; exit", math.MaxUint32, 2)
	b.tells(t, "mov r0, 2147483647; exit", math.MaxInt32, 2)
	b.tells(t, "mov r0, -2147483648; exit", 1<<64-1<<31, 2)
	b.tells(t, "lddw r0, -9223372036854775808; exit", 1<<63, 2)
	b.tells(t, "lddw r0, 1311768467463790320; exit", 0x123456789ABCDEF0, 2)
	b.tells(t, "lddw r0, -81985529216486896; exit", 0xFEDCBA9876543210, 2)
	b.tells(t, "lddw r0, 4294967295; exit", math.MaxUint32, 2)
	b.tells(t, "mov r0, 7; exit; mov r0, 8; exit", 7, 2)
	b.tells(t, "mov r9, 6; mov r0, r9; exit", 6, 3)
	seed := uint64(1)
	for range 200 {
		x := samples.Number(&seed)
		if got := b.run(t, append(wide(0, x), exit)); got != (api.Result{Ret: x, Steps: 2}) {
			t.Errorf("lddw r0, %#x: %+v", x, got)
		}
	}
}

func TestEachRegisterKeepsItsOwn(t *testing.T) { // P18.1
	for reg := range byte(10) {
		var l []api.Inst
		for other := range byte(10) {
			l = append(l, api.Inst{Op: api.ClassAlu64 | api.Mov, Dst: other, Imm: 100 + int32(other)})
		}
		l = append(l, api.Inst{Op: api.ClassAlu64 | api.Mov | api.FromReg, Src: reg}, exit)
		if got := usual(t).run(t, l); got != (api.Result{Ret: 100 + uint64(reg), Steps: 12}) {
			t.Errorf("register %d: %+v", reg, got)
		}
	}
}

// operations are all but Neg, which has no second operand.
func operations() []byte {
	return []byte{api.Add, api.Sub, api.Mul, api.Div, api.Or, api.And, api.Lsh, api.Rsh, api.Mod, api.Xor, api.Mov, api.Arsh}
}

func conditions() []byte {
	return []byte{api.Jeq, api.Jgt, api.Jge, api.Jset, api.Jne, api.Jsgt, api.Jsge, api.Jlt, api.Jle, api.Jslt, api.Jsle}
}

// classes tells both sizes' classes of operations, or of jumps, and which is of 64 bits.
func classes(narrow, wide byte) map[byte]bool {
	return map[byte]bool{narrow: false, wide: true}
}

// pairs draws numbers, some of them the same.
func pairs(seed *uint64) [][2]uint64 {
	l := [][2]uint64{{0, 0}, {5, 0}, {0, 5}, {math.MaxUint64, 1}, {1 << 63, math.MaxUint64}, {1 << 31, 1 << 31}, {1 << 32, 0}, {7, 64}, {7, 32}, {1, 65}, {1 << 63, 63}}
	for range 20 {
		x, y := samples.Number(seed), samples.Number(seed)
		l = append(l, [2]uint64{x, y}, [2]uint64{x, x}, [2]uint64{x, x&math.MaxUint32 | y<<32}, [2]uint64{x, uint64(int32(y))})
	}
	return l
}

func TestEachOperation(t *testing.T) { // P18.1
	seed := uint64(2)
	b := usual(t)
	for class, is64 := range classes(api.ClassAlu, api.ClassAlu64) {
		for _, op := range operations() {
			for _, p := range pairs(&seed) {
				l := slices.Concat(wide(0, p[0]), wide(9, p[1]), []api.Inst{{Op: class | op | api.FromReg, Dst: 0, Src: 9}, exit})
				want, _ := alu.Do(op, is64, p[0], p[1])
				if got := b.run(t, l); got != (api.Result{Ret: want, Steps: 4}) {
					t.Errorf("%#x of %#x, %#x: %+v, not %#x", class|op, p[0], p[1], got, want)
				}
				l = slices.Concat(wide(0, p[0]), []api.Inst{{Op: class | op, Imm: int32(p[1])}, exit})
				want, _ = alu.Do(op, is64, p[0], uint64(int64(int32(p[1]))))
				if got := b.run(t, l); got != (api.Result{Ret: want, Steps: 3}) {
					t.Errorf("%#x of %#x, %d: %+v, not %#x", class|op, p[0], int32(p[1]), got, want)
				}
			}
		}
		for _, p := range pairs(&seed) {
			want, _ := alu.Do(api.Neg, is64, p[0], 0)
			if got := b.run(t, append(wide(0, p[0]), api.Inst{Op: class | api.Neg}, exit)); got != (api.Result{Ret: want, Steps: 3}) {
				t.Errorf("Neg (%#x) of %#x: %+v, not %#x", class, p[0], got, want)
			}
		}
	}
}

func TestOperationsByHand(t *testing.T) { // P18.1
	b := usual(t)
	b.tells(t, "mov r0, 7; add r0, -9; exit", math.MaxUint64-1, 3)
	b.tells(t, "mov r0, 7; add32 r0, -9; exit", math.MaxUint32-1, 3)
	b.tells(t, "mov r0, 7; mov r3, 0; div r0, r3; exit", 0, 4)
	b.tells(t, "mov r0, 7; mod r0, 0; exit", 7, 3)
	b.tells(t, "mov r0, -8; arsh r0, 1; exit", math.MaxUint64-3, 3)
	b.tells(t, "mov r0, 5; neg r0; exit", math.MaxUint64-4, 3)
	b.tells(t, "mov r0, 5; neg32 r0; exit", math.MaxUint32-4, 3)
	b.tells(t, "mov r0, -1; mov r2, -1; mov32 r0, r2; exit", math.MaxUint32, 4)
	b.tells(t, "mov r0, 3; mul r0, r0; exit", 9, 3)
	b.tells(t, "mov r2, 3; mov r0, 2; sub r0, r2; exit", math.MaxUint64, 4)
}

func TestOperationsWithoutAValue(t *testing.T) { // P18.1
	b := usual(t)
	for class := range classes(api.ClassAlu, api.ClassAlu64) {
		for _, op := range append(operations(), api.Neg) {
			reads := api.Result{Trap: api.TrapRead, Steps: 1}
			want := reads
			if op == api.Mov {
				want = api.Result{Ret: 0, Steps: 2}
			}
			for _, reg := range []byte{0, 2, 5, 9} {
				l := []api.Inst{{Op: class | op, Dst: reg}, {Op: api.ClassAlu64 | api.Mov}, exit}
				if got := b.run(t, l); op != api.Mov && got != want || op == api.Mov && got.Trap != api.TrapNone {
					t.Errorf("%#x of register %d: %+v", class|op, reg, got)
				}
			}
			if op == api.Neg {
				continue
			}
			for _, l := range [][]api.Inst{
				{{Op: class | op | api.FromReg, Dst: 0, Src: 3}, exit},
				{{Op: class | op | api.FromReg, Dst: 0, Src: 0}, exit},
				{{Op: class | op | api.FromReg, Dst: 1, Src: 3}, exit},
				{{Op: api.ClassAlu64 | api.Mov, Dst: 0}, {Op: class | op | api.FromReg, Dst: 0, Src: 3}, exit},
			} {
				if got := b.run(t, l); got.Trap != api.TrapRead || got.Steps != len(l)-1 {
					t.Errorf("%#x from a register without a value: %+v", class|op, got)
				}
			}
		}
	}
	b.traps(t, "mov r0, r2; mov r0, 1; exit", api.TrapRead, 1)
	b.traps(t, "mov32 r0, r2; mov r0, 1; exit", api.TrapRead, 1)
	b.traps(t, "add r2, r10; exit", api.TrapRead, 1)
	b.traps(t, "add r1, r2; exit", api.TrapRead, 1)
	b.traps(t, "neg r2; exit", api.TrapRead, 1)
}

func TestOperationsOfPointers(t *testing.T) { // P18.1
	b := usual(t)
	for _, w := range nonNumbers() {
		for class, is64 := range classes(api.ClassAlu, api.ClassAlu64) {
			for _, op := range append(operations(), api.Neg) {
				moves := is64 && (op == api.Add || op == api.Sub) && w.name != "a map" || op == api.Mov
				x := api.Inst{Op: class | op, Dst: 6, Imm: 8}
				if op == api.Neg {
					x.Imm = 0
				}
				b.operates(t, w, moves, x)
				if op == api.Neg {
					continue
				}
				b.operates(t, w, moves, api.Inst{Op: class | op | api.FromReg, Dst: 6, Src: 8})
				b.operates(t, w, is64 && op == api.Mov, api.Inst{Op: class | op | api.FromReg, Dst: 8, Src: 6})
				b.operates(t, w, is64 && op == api.Mov, api.Inst{Op: class | op | api.FromReg, Dst: 6, Src: 6})
				b.operates(t, w, is64 && op == api.Mov, api.Inst{Op: class | op | api.FromReg, Dst: 6, Src: 10})
			}
		}
	}
}

// operates runs an operation behind a way; register 8 is a number there.
func (b *bench) operates(t *testing.T, w way, done bool, x api.Inst) {
	t.Helper()
	l := slices.Concat(code(t, w.lines), code(t, "mov r8, 8"), []api.Inst{x}, code(t, "mov r0, 0; exit"))
	want := api.Result{Trap: api.TrapType, Steps: w.steps + 2}
	if done {
		want = api.Result{Steps: w.steps + 4}
	}
	if done && w.name == "a record" {
		want.Trap = api.TrapLeak
	}
	// A storage's slot, and records that were thrown away, would be in the next run's way.
	if got := b.copied().run(t, l); got != want {
		t.Errorf("%s, %+v: %+v, not %+v", w.name, x, got, want)
	}
}

func TestPointersThatAreNotMoved(t *testing.T) { // P18.1
	b := usual(t)
	for _, lines := range []string{
		"mov r2, 8; add r2, r10; exit", "mov r2, 8; sub r2, r10; exit", "add r1, r10; exit", "sub r1, r1; exit", "mov r2, r10; sub r2, r10; exit",
		"map r1, 0; add r1, 0; exit", "map r1, 0; sub r1, 0; exit", "mov r2, 0; map r1, 0; add r2, r1; exit",
		"add32 r1, 0; exit", "mov32 r2, r1; exit", "map r1, 0; mov32 r2, r1; exit", "neg r1; exit", "neg32 r1; exit", "and r1, -1; exit", "or r1, 0; exit", "mul r1, 1; exit",
	} {
		l := code(t, lines)
		if got := b.run(t, l); got.Trap != api.TrapType || got.Ret != 0 {
			t.Errorf("%q: %+v", lines, got)
		}
	}
	b.tells(t, "mov32 r1, 5; mov r0, r1; exit", 5, 3)
	b.tells(t, "mov r1, 5; mov r0, r1; exit", 5, 3)
	b.tells(t, "map r0, 0; mov32 r0, -1; exit", math.MaxUint32, 3)
}

func TestPointersMovedFarOffAndBack(t *testing.T) { // P18.1
	seed := uint64(3)
	b := usual(t)
	for range 300 {
		x, y := samples.Number(&seed), samples.Number(&seed)
		at := -8 - 8*int64(samples.Below(&seed, 8))
		// The offset ends at the place, whatever it was under way.
		for _, ops := range [][3]byte{{api.Add, api.Add, api.Add}, {api.Sub, api.Sub, api.Sub}, {api.Add, api.Sub, api.Add}, {api.Sub, api.Add, api.Sub}} {
			l := code(t, "mov r2, 77; mov r6, r10")
			off := uint64(0)
			for k, n := range []uint64{x, y, 0} {
				if k == 2 {
					n = uint64(at) - off
					if ops[k] == api.Sub {
						n = -n
					}
				}
				l = append(l, wide(3, n)...)
				l = append(l, api.Inst{Op: api.ClassAlu64 | api.FromReg | ops[k], Dst: 6, Src: 3})
				if ops[k] == api.Add {
					off += n
				} else {
					off -= n
				}
			}
			l = append(l, code(t, "st8 [r6+0], r2; ld8 r0, [r10"+strconv.FormatInt(at, 10)+"]; exit")...)
			if got := b.run(t, l); got != (api.Result{Ret: 77, Steps: 11}) {
				t.Errorf("by %#x, %#x, to %d: %+v", x, y, at, got)
			}
		}
	}
	for _, far := range []string{"9223372036854775807", "-9223372036854775808", "-9223372036854775744", "4294967296", "4294967232", "-4294967304"} {
		b.traps(t, "lddw r3, "+far+"; mov r6, r10; add r6, r3; ld1 r0, [r6+0]; exit", api.TrapAccess, 4)
		b.traps(t, "lddw r3, "+far+"; mov r6, r10; sub r6, r3; st1 [r6-8], 1; exit", api.TrapAccess, 4)
		b.traps(t, "lddw r3, "+far+"; add r1, r3; ld8 r0, [r1+0]; exit", api.TrapAccess, 3)
		b.traps(t, "lddw r3, "+far+"; ld8 r6, [r1+0]; add r6, r3; ld8 r0, [r6+0]; exit", api.TrapAccess, 4)
		b.tells(t, "lddw r3, "+far+"; add r1, r3; sub r1, r3; ld8 r0, [r1+16]; exit", 42, 5)
		b.tells(t, "lddw r3, "+far+"; ld8 r6, [r1+8]; sub r6, r3; add r6, r3; ld1 r0, [r6+1]; exit", 0, 6)
	}
}

func TestEachJump(t *testing.T) { // P18.1
	seed := uint64(4)
	b := usual(t)
	for class, is64 := range classes(api.ClassJmp32, api.ClassJmp) {
		for _, op := range conditions() {
			taken := 0
			for _, p := range pairs(&seed) {
				l := slices.Concat(wide(2, p[0]), wide(9, p[1]), code(t, "mov r0, 1"), []api.Inst{{Op: class | op | api.FromReg, Dst: 2, Src: 9, Off: 1}}, code(t, "mov r0, 2; exit"))
				want, _ := alu.Holds(op, is64, p[0], p[1])
				taken += b.jumps(t, l, want, 5)
				l = slices.Concat(wide(2, p[0]), code(t, "mov r0, 1"), []api.Inst{{Op: class | op, Dst: 2, Imm: int32(p[1]), Off: 1}}, code(t, "mov r0, 2; exit"))
				want, _ = alu.Holds(op, is64, p[0], uint64(int64(int32(p[1]))))
				taken += b.jumps(t, l, want, 4)
			}
			if taken == 0 || taken == 2*len(pairs(&seed)) {
				t.Errorf("%#x: taken %d times", class|op, taken)
			}
		}
	}
}

// jumps runs a code that tells 1 in so many steps, if its jump is taken, else 2 in one more; it tells 1 if it was taken.
func (b *bench) jumps(t *testing.T, l []api.Inst, taken bool, steps int) int {
	t.Helper()
	want := api.Result{Ret: 2, Steps: steps + 1}
	if taken {
		want = api.Result{Ret: 1, Steps: steps}
	}
	if got := b.run(t, l); got != want {
		t.Errorf("%s: %+v, not %+v", textOf(l), got, want)
	}
	return int(2 - want.Ret)
}

func TestWhereJumpsGo(t *testing.T) { // P18.1
	b := usual(t)
	b.tells(t, "mov r0, 1; ja +0; exit", 1, 3)
	b.tells(t, "mov r0, 1; ja +1; mov r0, 2; exit", 1, 3)
	b.tells(t, "mov r0, 1; ja +2; lddw r0, 3; exit", 1, 3)
	b.tells(t, "ja +1; exit; mov r0, 4; exit", 4, 3)
	b.tells(t, "mov r0, 1; jeq r0, 1, +0; exit", 1, 3)
	b.tells(t, "mov r0, 1; jeq r0, 1, +2; lddw r0, 7; exit", 1, 3)
	b.tells(t, "mov r0, 1; jne r0, 1, +2; lddw r0, 7; exit", 7, 4)
	b.tells(t, "mov r0, 3; jgt r0, 2, +1; exit; jgt r0, 3, +1; mov r0, 9; exit", 9, 5)
	l := code(t, "mov r0, 1; ja +61")
	for range 61 {
		l = append(l, api.Inst{Op: api.ClassAlu64 | api.Mov, Imm: 2})
	}
	if got := b.run(t, append(l, exit)); got != (api.Result{Ret: 1, Steps: 3}) {
		t.Errorf("the farthest jump: %+v", got)
	}
}

func TestJumpsWithoutAValue(t *testing.T) { // P18.1
	b := usual(t)
	for class := range classes(api.ClassJmp32, api.ClassJmp) {
		for _, op := range conditions() {
			for _, x := range []api.Inst{
				{Op: class | op, Dst: 2}, {Op: class | op, Dst: 0, Imm: 1}, {Op: class | op | api.FromReg, Dst: 2, Src: 8}, {Op: class | op | api.FromReg, Dst: 8, Src: 2},
				{Op: class | op | api.FromReg, Dst: 2, Src: 1}, {Op: class | op | api.FromReg, Dst: 10, Src: 2}, {Op: class | op | api.FromReg, Dst: 3, Src: 3},
			} {
				if got := b.run(t, append(code(t, "mov r8, 0"), x, exit)); got != (api.Result{Trap: api.TrapRead, Steps: 2}) {
					t.Errorf("%+v: %+v", x, got)
				}
			}
		}
	}
}

func TestJumpsOfPointers(t *testing.T) { // P18.1
	b := usual(t)
	for _, w := range nonNumbers() {
		for class, is64 := range classes(api.ClassJmp32, api.ClassJmp) {
			for _, op := range conditions() {
				asked := is64 && (op == api.Jeq || op == api.Jne) && w.name != "a map"
				b.asks(t, w, asked, op == api.Jne, api.Inst{Op: class | op, Dst: 6, Off: 1})
				for _, imm := range []int32{1, -1, 8, math.MinInt32, math.MaxInt32} {
					b.asks(t, w, false, false, api.Inst{Op: class | op, Dst: 6, Off: 1, Imm: imm})
				}
				b.asks(t, w, false, false, api.Inst{Op: class | op | api.FromReg, Dst: 6, Src: 8, Off: 1})
				b.asks(t, w, false, false, api.Inst{Op: class | op | api.FromReg, Dst: 8, Src: 6, Off: 1})
				b.asks(t, w, false, false, api.Inst{Op: class | op | api.FromReg, Dst: 6, Src: 6, Off: 1})
				b.asks(t, w, false, false, api.Inst{Op: class | op | api.FromReg, Dst: 6, Src: 10, Off: 1})
			}
		}
	}
}

// asks runs a jump over an instruction, behind a way; register 8 is 0 there. If it can't be asked, it traps.
func (b *bench) asks(t *testing.T, w way, asked, taken bool, x api.Inst) {
	t.Helper()
	lines, steps := ended(w)
	l := slices.Concat(code(t, w.lines), code(t, "mov r8, 0"), []api.Inst{x}, code(t, "mov r8, 1"), code(t, lines))
	want := api.Result{Trap: api.TrapType, Steps: w.steps + 2}
	if asked {
		want = api.Result{Steps: w.steps + 3 + steps}
	}
	if taken && asked {
		want.Steps--
	}
	if got := b.copied().run(t, l); got != want {
		t.Errorf("%s, %+v: %+v, not %+v", w.name, x, got, want)
	}
}

func TestNullIsANumber(t *testing.T) { // P18.1
	b := usual(t)
	// Without a slot lookup tells null.
	miss := "st4 [r10-4], 2; map r1, 0; mov r2, r10; add r2, -4; call 1; "
	b.tells(t, miss+"exit", 0, 6)
	b.tells(t, miss+"mov r6, 9; jeq r0, 0, +1; mov r6, 8; mov r0, r6; exit", 9, 9)
	b.tells(t, miss+"jne r0, 1, +0; exit", 0, 7)
	b.tells(t, miss+"add r0, 5; exit", 5, 7)
	b.traps(t, miss+"ld8 r0, [r0+0]; exit", api.TrapType, 6)
	b.c = samples.Contexts(api.HookExec)[0]
	b.tells(t, "ld8 r0, [r1+16]; exit", 0, 2)
	b.traps(t, "ld8 r2, [r1+16]; ld8 r0, [r2+0]; exit", api.TrapType, 2)
	b.c = samples.Contexts(api.HookExec)[1]
	b.traps(t, "ld8 r0, [r1+16]; exit", api.TrapType, 2)
	b.tells(t, "ld8 r6, [r1+16]; mov r0, 0; jne r6, 0, +1; mov r0, 1; exit", 0, 4)
}

func TestAnExitWithAPointer(t *testing.T) { // P18.1
	b := usual(t)
	for _, w := range nonNumbers() {
		b.copied().traps(t, w.lines+"; mov r0, r6; exit", api.TrapType, w.steps+2)
		b.copied().traps(t, w.lines+"; mov r0, r6; mov r6, 0; add r0, 0; exit", api.TrapType, w.steps+map[bool]int{true: 3, false: 4}[w.name == "a map"])
	}
	b.traps(t, "call 11; mov r6, r0; mov r0, r10; exit", api.TrapType, 4)
}

func TestAnExitWithARecord(t *testing.T) { // P18.1
	b := usual(t)
	one := "map r1, 3; mov r2, 16; call 8; mov r6, r0; "
	b.traps(t, one+"mov r0, 0; exit", api.TrapLeak, 6)
	b.traps(t, one+"mov r6, 0; mov r0, 0; exit", api.TrapLeak, 7)
	b.traps(t, one+"exit", api.TrapType, 5)
	// Behind a call register 1 has no value, and which of two traps comes first is seen.
	b.traps(t, one+"map r1, 3; mov r2, 1; call 8; mov r1, r6; call 9; exit", api.TrapLeak, 10)
	b.tells(t, one+"mov r1, r6; call 9; exit", 0, 7)
	b.tells(t, one+"mov r1, r6; call 10; mov r0, 3; exit", 3, 8)
	// What others hold is no leak.
	b.r.Reserve(7, 4)
	b.tells(t, "mov r0, 1; exit", 1, 2)
	b.tells(t, one+"mov r1, r6; call 9; exit", 0, 7)
	b.traps(t, one+"mov r0, 1; exit", api.TrapLeak, 6)
	if held := b.r.Held(); len(held) != 1 {
		t.Errorf("held: %v", held)
	}
}

func TestAsManyInstructionsAsThereMayBe(t *testing.T) { // P18.1
	b := usual(t)
	for n := 2; n <= 64; n++ {
		l := code(t, "mov r0, 0")
		for len(l) < n-1 {
			l = append(l, api.Inst{Op: api.ClassAlu64 | api.Add, Imm: 1})
		}
		if got := b.run(t, withRoom(append(l, exit))); got != (api.Result{Ret: uint64(n - 2), Steps: n}) {
			t.Errorf("%d instructions: %+v", n, got)
		}
	}
	// A LdWide is one step, by two instructions.
	var l []api.Inst
	for k := range uint64(31) {
		l = append(l, wide(0, k)...)
	}
	l = append(l, api.Inst{Op: api.ClassAlu64 | api.Add, Imm: 5}, exit)
	if got := b.run(t, l); got != (api.Result{Ret: 35, Steps: 33}) {
		t.Errorf("31 wide ones: %+v", got)
	}
}

func TestTooManySteps(t *testing.T) { // P18.1
	b := usual(t)
	back := []api.Inst{{Op: api.ClassJmp, Off: -1}, exit}
	if got := b.run(t, back); got != (api.Result{Trap: api.TrapCode}) {
		t.Errorf("a loop: %+v", got)
	}
	// No code that is well formed goes so far: what is behind the check of it must end too.
	if got := begun(back, b.c, b.o, b.r, b.owner).result(); got != (api.Result{Trap: api.TrapFuel, Steps: 64}) {
		t.Errorf("a loop that is begun: %+v", got)
	}
	l := code(t, "map r1, 3; mov r2, 8; call 8; ja +0; exit")
	l[4].Off = -1
	if got := begun(l, b.c, b.o, b.r, b.owner).result(); got != (api.Result{Trap: api.TrapFuel, Steps: 64}) || len(b.r.Held()) != 0 || b.r.Used() != 16 {
		t.Errorf("a loop with a record: %+v, %v", got, b.r.Held())
	}
}

func TestAFaultIsNoAnswer(t *testing.T) { // P18.1
	b := usual(t)
	// A code that goes beyond its end is none that Run begins.
	r := begun(code(t, "mov r0, 1; exit")[:1], b.c, b.o, b.r, b.owner)
	defer func() {
		if recover() == nil {
			t.Error("a fault is taken for an answer")
		}
	}()
	t.Error(r.result())
}

// malformed has codes that aren't well formed for four maps.
func malformed(t *testing.T) map[string][]api.Inst {
	mov := api.Inst{Op: api.ClassAlu64 | api.Mov}
	return map[string][]api.Inst{
		"nil":                         nil,
		"empty":                       {},
		"no exit":                     {mov},
		"exit ahead of the end":       {mov, exit, mov},
		"64 and one":                  append(slices.Repeat([]api.Inst{mov}, 64), exit),
		"300":                         append(slices.Repeat([]api.Inst{mov}, 300), exit),
		"a jump back":                 {mov, {Op: api.ClassJmp, Off: -1}, exit},
		"a jump beyond the end":       {mov, {Op: api.ClassJmp, Off: 1}, exit},
		"a condition's jump back":     {mov, {Op: api.ClassJmp | api.Jeq, Off: -2}, exit},
		"into a wide one":             slices.Concat([]api.Inst{{Op: api.ClassJmp, Off: 1}}, wide(0, 1), []api.Inst{exit}),
		"a wide one without its half": {{Op: api.LdWide}, mov, exit},
		"a half alone":                {{}, exit},
		"register 10 written":         {{Op: api.ClassAlu64 | api.Mov, Dst: 10}, mov, exit},
		"register 11":                 {{Op: api.ClassAlu64 | api.Mov, Dst: 11}, mov, exit},
		"a field too many":            {{Op: api.ClassAlu64 | api.Mov, Off: 1}, exit},
		"no opcode":                   {{Op: 0xFF}, mov, exit},
		"map 4":                       append(code(t, "map r1, 4"), mov, exit),
		"map 2^32":                    append(code(t, "map r1, 4294967296"), mov, exit),
	}
}

func TestCodesThatAreNotWellFormed(t *testing.T) { // P18.1, P18.2
	b := usual(t)
	for name, l := range malformed(t) {
		was := b.left()
		if got := b.run(t, l); got != (api.Result{Trap: api.TrapCode}) || b.left() != was {
			t.Errorf("%s: %+v, leaves %q", name, got, b.left())
		}
		// What is ahead of the fault isn't done either.
		l = slices.Concat(code(t, "map r1, 3; mov r2, 8; call 8"), l)
		if got := b.run(t, l); got != (api.Result{Trap: api.TrapCode}) || b.left() != was {
			t.Errorf("%s behind a record: %+v, leaves %q", name, got, b.left())
		}
	}
}

func TestAsManyMapsAsThereAre(t *testing.T) { // P18.1
	for n := range 5 {
		b := benchOf(t, slices.Repeat([]api.MapDef{audits}, n)...)
		for m := range 6 {
			l := code(t, "map r1, "+strconv.Itoa(m)+"; mov r2, 4; call 8; mov r1, r0; call 9; exit")
			want := api.Result{Steps: 6}
			if m >= n {
				want = api.Result{Trap: api.TrapCode}
			}
			if got := b.run(t, l); got != want {
				t.Errorf("map %d of %d: %+v", m, n, got)
			}
		}
		b.tells(t, "mov r0, 2; exit", 2, 2)
	}
}

func TestNoMapsAndNoRing(t *testing.T) { // P18.1, P18.2
	b := usual(t)
	b.o = nil
	b.tells(t, "mov r0, 2; exit", 2, 2)
	b.tells(t, "call 11; exit", 7, 2)
	if got := b.run(t, code(t, "map r1, 0; mov r0, 1; exit")); got != (api.Result{Trap: api.TrapCode}) {
		t.Errorf("a map of none: %+v", got)
	}
	b = usual(t)
	b.r = nil
	b.tells(t, "map r1, 3; mov r2, 4; call 8; exit", 0, 4)
	b.tells(t, "map r1, 3; mov r2, 4; call 8; jne r0, 0, +1; mov r0, 3; exit", 3, 6)
	b.tells(t, "st4 [r10-4], 0; map r1, 0; mov r2, r10; add r2, -4; call 1; ld8 r0, [r0+0]; exit", 0, 7)
	b.traps(t, "mov r1, 0; call 9; exit", api.TrapCall, 2)
	b.o = nil
	b.tells(t, "mov r0, 1; exit", 1, 2)
	b.traps(t, "exit", api.TrapRead, 1)
	if got := Run(nil, api.Context{}, nil, nil, 0); got != (api.Result{Trap: api.TrapCode}) {
		t.Errorf("of nothing: %+v", got)
	}
	zero := &owned.Owned{}
	if got := Run(code(t, "mov r0, 1; exit"), b.c, zero, nil, 0); got != (api.Result{Ret: 1, Steps: 2}) {
		t.Errorf("of maps that are none: %+v", got)
	}
}

func TestContextsThatAreNotRight(t *testing.T) { // P18.1, P18.2
	b := usual(t)
	was := b.left()
	l := code(t, "map r1, 3; mov r2, 8; call 8; mov r0, 1; exit")
	turned := func(turn func(c *api.Context)) {
		t.Helper()
		c := samples.Contexts(api.HookCreate)[0]
		c.Objs = slices.Clone(c.Objs)
		turn(&c)
		b.c = c
		if got := b.run(t, l); got != (api.Result{Trap: api.TrapCode}) || b.left() != was {
			t.Errorf("%+v: %+v, leaves %q", c, got, b.left())
		}
	}
	if b.run(t, code(t, "mov r0, 1; exit")).Trap != api.TrapNone {
		t.Error("a context that isn't turned isn't right")
	}
	turned(func(c *api.Context) { *c = api.Context{} })
	turned(func(c *api.Context) { c.Hook = 0 })
	turned(func(c *api.Context) { c.Hook = 17 })
	turned(func(c *api.Context) { c.Hook = -3 })
	turned(func(c *api.Context) { c.Hook = math.MinInt })
	turned(func(c *api.Context) { c.Hook = api.HookKill })
	turned(func(c *api.Context) { c.Words[0] = 0 })
	turned(func(c *api.Context) { c.Words[0] = 2 })
	turned(func(c *api.Context) { c.Words[1] = math.MaxUint64 })
	turned(func(c *api.Context) { c.Words[4] = 1 })
	turned(func(c *api.Context) { c.Words[7] = 1 })
	turned(func(c *api.Context) { c.Objs[1].Type = 3 })
	turned(func(c *api.Context) { c.Objs = nil })
	turned(func(c *api.Context) { c.Objs = append(c.Objs, make([]api.Obj, 3)...) })
	turned(func(c *api.Context) {
		for k := range 7 {
			c.Objs = append(c.Objs, samples.Task(k))
		}
	})
}
