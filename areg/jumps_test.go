package areg_test

import (
	"math"
	"slices"
	"strconv"
	"testing"

	"halberd/api"
	"halberd/areg"
	"halberd/narrow"
	"halberd/num"
	"halberd/samples"
)

// conditions has all jumps with one.
func conditions() []byte {
	return []byte{api.Jeq, api.Jgt, api.Jge, api.Jset, api.Jne, api.Jsgt, api.Jsge, api.Jlt, api.Jle, api.Jslt, api.Jsle}
}

// asks holds both ways of a jump against what is wanted of both numbers; second is the other register, if it isn't the first one.
func (b bench) asks(t *testing.T, s api.AState, i api.Inst, x, y api.Num, second int) {
	t.Helper()
	for _, taken := range []bool{true, false} {
		p, q, wanted := narrow.Way(i.Op&0xF0, i.Op&7 == api.ClassJmp, x, y, taken)
		got, can, ok := b.jump(t, s, i, taken)
		want := api.AState{}
		if wanted {
			want = with(s, regs(int(i.Dst), known(p)))
		}
		if wanted && second >= 0 {
			want = with(want, regs(second, known(q)))
		}
		if !ok || can != wanted || !same(got, want) {
			t.Errorf("%s, taken %v: %v, %v, not %v: %s", textOfInst(i), taken, can, ok, wanted, difference(got, want))
		}
	}
}

func TestJumpsOfNumbers(t *testing.T) { // P19.6
	b := usual()
	for _, op := range conditions() {
		for _, class := range []byte{api.ClassJmp, api.ClassJmp32} {
			for _, x := range numbers() {
				s := begun(regs(3, known(x)), places(-8, place(known(x))), held(7), next(8))
				for _, c := range immediates {
					b.asks(t, s, api.Inst{Op: op | class, Dst: 3, Imm: c}, x, num.Const(uint64(int64(c))), -1)
				}
				for _, y := range numbers() {
					s := with(s, regs(9, known(y)))
					b.asks(t, s, api.Inst{Op: op | class | api.FromReg, Dst: 3, Src: 9}, x, y, 9)
				}
			}
		}
	}
}

func TestJumpsByHand(t *testing.T) { // P19.6
	b := usual()
	s := begun(regs(0, from(0, 9), 2, from(5, 20)), places(-8, place(from(0, 9))), held(7), next(8))
	b.goes(t, s, "jgt r0, 5, +0", true, with(s, regs(0, from(6, 9))))
	b.goes(t, s, "jgt r0, 5, +0", false, with(s, regs(0, from(0, 5))))
	b.goes(t, s, "jgt r0, r2, +0", true, with(s, regs(0, from(6, 9), 2, from(5, 8))))
	b.goes(t, s, "jgt r2, r0, +0", false, with(s, regs(0, from(5, 9), 2, from(5, 9))))
	b.goes(t, s, "jeq r0, r2, +0", true, with(s, regs(0, from(5, 9), 2, from(5, 9))))
	b.goes(t, s, "jeq r0, 3, +0", true, with(s, regs(0, one(3))))
	b.goes(t, s, "jeq r0, 0, +0", true, with(s, regs(0, one(0))))
	b.goes(t, s, "jeq r0, 0, +0", false, with(s, regs(0, from(1, 9))))
	b.goes(t, s, "jne r0, 9, +0", true, with(s, regs(0, from(0, 8))))
	b.goes(t, s, "jlt r0, 5, +7", true, with(s, regs(0, from(0, 4))))
	b.goes(t, s, "jle32 r0, 5, +0", false, with(s, regs(0, from(6, 9))))
	b.goes(t, s, "jsge r2, 7, +0", true, with(s, regs(2, from(7, 20))))
	b.goes(t, s, "jsge r2, -1, +0", true, s)
	b.cannot(t, s, "jsge r2, -1, +0", false)
	b.cannot(t, s, "jgt r0, 9, +0", true)
	b.goes(t, s, "jgt r0, 9, +0", false, s)
	b.cannot(t, s, "jeq r0, 10, +0", true)
	b.cannot(t, s, "jlt r2, 5, +0", true)
	b.cannot(t, s, "jge r2, 5, +0", false)
	b.cannot(t, s, "jset r0, 64, +0", true)
	b.goes(t, s, "jset r0, 8, +0", true, with(s, regs(0, from(8, 9))))
	b.goes(t, s, "jset r0, 8, +0", false, with(s, regs(0, from(0, 7))))
	// Of 32 bits nothing more is known of what may have more.
	s = with(s, regs(0, anything()))
	b.goes(t, s, "jgt32 r0, 5, +0", true, s)
	b.goes(t, s, "jgt32 r0, 5, +0", false, s)
}

func TestJumpsOfOneRegisterWithItself(t *testing.T) { // P19.6
	b := usual()
	for _, x := range []api.Num{num.Const(0), num.Const(7), num.All(), num.Bounds(3, 9)} {
		s := begun(regs(3, known(x)))
		for _, line := range []string{"jeq", "jge", "jle", "jsge", "jsle", "jeq32"} {
			b.goes(t, s, line+" r3, r3, +0", true, s)
		}
		b.goes(t, s, "jne r3, r3, +0", false, s)
	}
	for _, word := range []string{"jne", "jgt", "jlt", "jsgt", "jslt", "jne32", "jgt32", "jlt32"} {
		b.cannot(t, begun(regs(3, one(7))), word+" r3, r3, +0", true)
	}
}

// nullJumps tells the jumps that ask whether register 2 is null, and whether it is, if they are taken.
func nullJumps() map[string]bool {
	return map[string]bool{"jeq r2, 0, +0": true, "jne r2, 0, +0": false, "jeq r2, 0, +9": true, "jne r2, 0, +32767": false}
}

func TestJumpsOfWhatMayBeNull(t *testing.T) { // P19.6
	b := usual()
	for _, v := range []api.Abs{orNull(task(5)), orNull(inode(5)), orNull(slot(0, 5)), orNull(slot(2, 5)), orNull(record(9, 5))} {
		other, no := v, v
		other.Id, no.Null = 6, false
		s := begun(
			regs(0, v, 1, other, 2, v, 3, one(5), 4, at(slot(1, 7), 2, 7), 8, task(4), 9, v),
			places(-64, place(v), -56, place(other), -48, place(one(7)), -40, place(v), -32, bytesAt(1, 5), -24, place(task(4)), -16, place(at(slot(1, 7), 5, 5))),
			next(9))
		null := with(s,
			regs(0, one(0), 2, one(0), 9, one(0)),
			places(-64, place(one(0)), -40, place(one(0))))
		not := with(s,
			regs(0, no, 2, no, 9, no),
			places(-64, place(no), -40, place(no)))
		for line, isNull := range nullJumps() {
			for _, ids := range heldBeside(v, 5) {
				b.goes(t, with(s, held(ids[0]...)), line, isNull, with(null, held(ids[1]...)))
				b.goes(t, with(s, held(ids[0]...)), line, !isNull, with(not, held(ids[0]...)))
			}
		}
	}
}

// heldBeside has Ids that are held, the value's and another one's among them, if they are records; and those that are left without the value's.
func heldBeside(v api.Abs, id int) [][2][]int {
	if v.Kind == api.AbsRecord {
		return [][2][]int{{{id, 6}, {6}}, {{2, id, 6}, {2, 6}}, {{1, 3, id, 6, 8}, {1, 3, 6, 8}}}
	}
	return [][2][]int{{{}, {}}, {{2}, {2}}, {{1, 3, 8}, {1, 3, 8}}}
}

func TestJumpsOfWhatMayNotBeNull(t *testing.T) { // P19.6
	b := usual()
	for _, v := range slices.Concat(pointers(), []api.Abs{at(slot(0, 5), -4, 9), at(record(9, 7), 4096, 4096), at(task(3), 8, 8), stack(0), context(0)}) {
		s := begun(regs(2, v, 3, v, 4, orNull(slot(1, 8))), places(-8, place(v)), held(7), next(9))
		for line, isNull := range nullJumps() {
			b.cannot(t, s, line, isNull)
			b.goes(t, s, line, !isNull, s)
		}
	}
	s := begun()
	b.cannot(t, s, "jeq r10, 0, +0", true)
	b.goes(t, s, "jeq r10, 0, +0", false, s)
	b.goes(t, s, "jne r1, 0, +0", true, s)
}

func TestJumpsThatAreRefused(t *testing.T) { // P19.6
	b := usual()
	for _, v := range append(others(), api.Abs{}) {
		s := begun(regs(2, v, 3, one(0), 4, anything(), 5, v, 9, aMap(0)), held(7), next(8))
		for _, op := range conditions() {
			for _, class := range []string{"", "32"} {
				word := map[byte]string{
					api.Jeq: "jeq", api.Jgt: "jgt", api.Jge: "jge", api.Jset: "jset", api.Jne: "jne", api.Jsgt: "jsgt",
					api.Jsge: "jsge", api.Jlt: "jlt", api.Jle: "jle", api.Jslt: "jslt", api.Jsle: "jsle",
				}[op] + class
				// By registers, even if the number is 0.
				for _, second := range []string{"r2", "r3", "r4", "r5", "r6", "r9", "r10"} {
					b.bars(t, s, word+" r2, "+second+", +0")
				}
				for _, first := range []string{"r3", "r4", "r9"} {
					b.bars(t, s, word+" "+first+", r2, +0")
				}
				for _, c := range []string{"1", "-1", "4096", "-2147483648"} {
					b.bars(t, s, word+" r2, "+c+", +0")
				}
				if word != "jeq" && word != "jne" || !isPointer(v) {
					b.bars(t, s, word+" r2, 0, +0")
				}
			}
		}
	}
}

func TestJumpsOfEachRegister(t *testing.T) { // P19.6
	b := usual()
	for r := range 11 {
		s := begun(regs(r, from(0, 9)))
		b.goes(t, s, "jgt r"+strconv.Itoa(r)+", 4, +0", true, with(s, regs(r, from(5, 9))))
		for q := range 11 {
			if q != r {
				s := begun(regs(r, from(0, 9), q, from(4, 20)))
				b.goes(t, s, "jgt r"+strconv.Itoa(r)+", r"+strconv.Itoa(q)+", +0", true, with(s, regs(r, from(5, 9), q, from(4, 8))))
			}
		}
	}
}

func TestExit(t *testing.T) { // P19.7
	for hook, max := range map[int]uint64{1: 40, 2: 40, 3: 40, 4: 40, 5: 40, 6: 40, 7: 40, 8: 40, 9: 40, 10: 40, 11: 12, 12: 1, 13: 1, 14: 1, 15: 40, 16: 40} {
		for _, x := range []struct {
			v  api.Abs
			ok bool
		}{
			{one(0), true}, {one(1), true}, {one(max), true}, {one(max + 1), false}, {from(0, max), true}, {from(0, max+1), false}, {from(max, max+1), false},
			{one(1<<32 + max), false}, {one(1 << 63), false}, {one(math.MaxUint64), false}, {anything(), false}, {known(num.Signed(-1, 0)), false}, {known(num.Signed(0, 1)), true},
		} {
			exits(t, begun(regs(0, x.v)), hook, x.ok)
			exits(t, begun(regs(0, x.v, 3, orNull(slot(0, 1)), 4, record(8, 2)), places(-8, place(stack(0))), next(3)), hook, x.ok)
			exits(t, begun(regs(0, x.v), held(1)), hook, false)
			exits(t, begun(regs(0, x.v), held(3, 4), next(5)), hook, false)
		}
		for _, v := range append(others(), api.Abs{}) {
			exits(t, begun(regs(0, v, 1, one(0))), hook, false)
		}
	}
	for _, hook := range append(samples.Outside(1, 16), 0, 17, -1) {
		exits(t, begun(regs(0, one(0))), hook, false)
	}
}

// exits asks whether a run may end, and whether the state stays as it was.
func exits(t *testing.T, s api.AState, hook int, want bool) {
	t.Helper()
	in := roomy(s)
	if ok := areg.Exit(in, hook); ok != want {
		t.Errorf("hook %d, held %v: %s: %v", hook, s.Held, textOf(s.Regs[0]), ok)
	}
	unturned(t, in, s)
}

func TestTheChaptersExample(t *testing.T) { // P19.3, P19.5, P19.6
	b := usual()
	s := begun()
	for _, line := range []string{"st4 [r10-4], 1", "map r1, 0", "mov r2, r10", "add r2, -4", "call 1"} {
		got, ok := b.do(t, s, code(t, line)...)
		if !ok {
			t.Fatalf("%s is refused", line)
		}
		s = got
	}
	if s.Regs[0] != orNull(slot(0, 1)) {
		t.Errorf("behind lookup: %s", textOf(s.Regs[0]))
	}
	b.refuses(t, s, "ld8 r3, [r0+0]")
	null, can, ok := b.jump(t, s, code(t, "jeq r0, 0, +1")[0], true)
	if !can || !ok || null.Regs[0] != one(0) {
		t.Errorf("taken: %v, %v: %s", can, ok, textOf(null.Regs[0]))
	}
	b.refuses(t, null, "ld8 r3, [r0+0]")
	not, can, ok := b.jump(t, s, code(t, "jeq r0, 0, +1")[0], false)
	if !can || !ok || not.Regs[0] != slot(0, 1) {
		t.Errorf("not taken: %v, %v: %s", can, ok, textOf(not.Regs[0]))
	}
	b.tells(t, not, "ld8 r3, [r0+0]", with(not, regs(3, anything())))
}
