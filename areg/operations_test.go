package areg_test

import (
	"math"
	"slices"
	"strconv"
	"testing"

	"halberd/api"
	"halberd/areg"
	"halberd/num"
	"halberd/samples"
	"halberd/xfer"
)

func TestBegin(t *testing.T) { // P19.1
	s := areg.Begin()
	if s.Regs[1] != (api.Abs{Kind: api.AbsCtx}) || s.Regs[10] != (api.Abs{Kind: api.AbsStack}) || s.Next != 1 || len(s.Held) != 0 {
		t.Errorf("at the beginning: %s", difference(s, begun()))
	}
	for _, r := range []int{0, 2, 3, 4, 5, 6, 7, 8, 9} {
		if s.Regs[r] != (api.Abs{}) {
			t.Errorf("r%d at the beginning: %s", r, textOf(s.Regs[r]))
		}
	}
	for p, v := range s.Places {
		if v != (api.APlace{}) {
			t.Errorf("place %d at the beginning: %s", p, textOfPlace(v))
		}
	}
	s.Regs[1], s.Regs[10], s.Next, s.Held = api.Abs{}, api.Abs{}, 7, append(s.Held, 1, 2)
	if s := areg.Begin(); !same(s, begun()) {
		t.Errorf("at the next beginning: %s", difference(s, begun()))
	}
}

// operations has those that are no Mov and no Neg.
func operations() []byte {
	return []byte{api.Add, api.Sub, api.Mul, api.Div, api.Or, api.And, api.Lsh, api.Rsh, api.Mod, api.Xor, api.Arsh}
}

// numbers has edges, bounds, bits, and drawn ones.
func numbers() []api.Num {
	l := []api.Num{num.All(), num.Bounds(0, 7), num.Bounds(1, 1<<32), num.Signed(-5, 5), num.Signed(math.MinInt64, -1), num.Cut(num.All(), 4)}
	for _, c := range []uint64{0, 1, 2, 5, 31, 32, 33, 63, 64, 1<<31 - 1, 1 << 31, 1<<32 - 1, 1 << 32, 1<<63 - 1, 1 << 63, math.MaxUint64} {
		l = append(l, num.Const(c))
	}
	seed := uint64(1)
	for len(l) < 50 {
		x, _ := samples.Known(&seed)
		if x, ok := num.Refine(x); ok {
			l = append(l, x)
		}
	}
	return l
}

var immediates = []int32{0, 1, -1, 2, 7, 31, 32, 63, 64, 255, 4096, -4096, math.MaxInt32, math.MinInt32}

func TestOperationsOfNumbers(t *testing.T) { // P19.2
	b := usual()
	for _, op := range operations() {
		for _, class := range []byte{api.ClassAlu, api.ClassAlu64} {
			wide := class == api.ClassAlu64
			for _, x := range numbers() {
				s := begun(regs(3, known(x)))
				for _, c := range immediates {
					y, _ := xfer.Do(op, wide, x, num.Const(uint64(int64(c))))
					b.tellsInst(t, s, api.Inst{Op: op | class, Dst: 3, Imm: c}, with(s, regs(3, known(y))))
				}
				y, _ := xfer.Do(op, wide, x, x)
				b.tellsInst(t, s, api.Inst{Op: op | class | api.FromReg, Dst: 3, Src: 3}, with(s, regs(3, known(y))))
				for _, y := range numbers() {
					s := with(s, regs(9, known(y)))
					z, _ := xfer.Do(op, wide, x, y)
					b.tellsInst(t, s, api.Inst{Op: op | class | api.FromReg, Dst: 3, Src: 9}, with(s, regs(3, known(z))))
				}
			}
		}
	}
}

func (b bench) tellsInst(t *testing.T, s api.AState, i api.Inst, want api.AState) {
	t.Helper()
	if got, ok := b.do(t, s, i); !ok || !same(got, want) {
		t.Errorf("%s: %v: %s", textOfInst(i), ok, difference(got, want))
	}
}

func TestOperationsByHand(t *testing.T) { // P19.2
	b := usual()
	s := begun(regs(0, from(0, 3), 2, one(4), 9, one(math.MaxUint64)))
	b.tells(t, s, "add r0, 4", with(s, regs(0, from(4, 7))))
	b.tells(t, s, "add r0, r2", with(s, regs(0, from(4, 7))))
	b.tells(t, s, "add r2, -1", with(s, regs(2, one(3))))
	b.tells(t, s, "add r2, r0", with(s, regs(2, from(4, 7))))
	b.tells(t, s, "sub r2, r9", with(s, regs(2, one(5))))
	b.tells(t, s, "sub32 r2, 5", with(s, regs(2, one(1<<32-1))))
	b.tells(t, s, "mul r0, 2", with(s, regs(0, from(0, 6))))
	b.tells(t, s, "div r2, 0", with(s, regs(2, one(0))))
	b.tells(t, s, "mod r2, 0", with(s, regs(2, one(4))))
	b.tells(t, s, "lsh r2, 65", with(s, regs(2, one(8))))
	b.tells(t, s, "rsh32 r9, 31", with(s, regs(9, one(1))))
	b.tells(t, s, "arsh r9, 63", with(s, regs(9, one(math.MaxUint64))))
	b.tells(t, s, "xor r9, r9", with(s, regs(9, one(0))))
	b.tells(t, s, "and32 r9, 255", with(s, regs(9, one(255))))
	b.tells(t, s, "or r2, 3", with(s, regs(2, one(7))))
}

func TestNeg(t *testing.T) { // P19.2
	b := usual()
	for _, x := range numbers() {
		s := begun(regs(0, known(x), 2, one(2)))
		for _, class := range []byte{api.ClassAlu, api.ClassAlu64} {
			y, _ := xfer.Do(api.Neg, class == api.ClassAlu64, x, num.Const(0))
			b.tellsInst(t, s, api.Inst{Op: api.Neg | class}, with(s, regs(0, known(y))))
		}
	}
	s := begun(regs(0, one(5), 2, from(1, 2)))
	b.tells(t, s, "neg r0", with(s, regs(0, one(math.MaxUint64-4))))
	b.tells(t, s, "neg32 r0", with(s, regs(0, one(1<<32-5))))
	got, _ := b.do(t, s, code(t, "neg r2")...)
	if x := got.Regs[2].Num; x.SLo != -2 || x.SHi != -1 || got.Regs[0] != s.Regs[0] {
		t.Errorf("of 1 to 2: %s", textOf(got.Regs[2]))
	}
}

// pointers has each kind, that may not be null, with offsets that may be moved.
func pointers() []api.Abs {
	return []api.Abs{stack(-8), context(8), task(3), inode(4), slot(0, 5), slot(1, 6), record(9, 7)}
}

// mayBeNull has each kind that may be null.
func mayBeNull() []api.Abs {
	return []api.Abs{orNull(task(3)), orNull(inode(4)), orNull(slot(0, 5)), orNull(record(9, 7))}
}

// others has what is no number: pointers, what may be null, maps.
func others() []api.Abs {
	return slices.Concat(pointers(), mayBeNull(), []api.Abs{aMap(0), aMap(3)})
}

func TestMovCopiesWhatIsKnown(t *testing.T) { // P19.2
	b := usual()
	odd := known(api.Num{Bits: api.Tnum{Value: 4, Mask: 3}, ULo: 4, UHi: 9, SLo: -3, SHi: 8})
	l := slices.Concat(others(), []api.Abs{one(7), anything(), from(3, 9), odd, at(slot(0, 5), -3, 4000), at(record(9, 7), -4096, 4096), at(inode(4), 56, 56)})
	for _, v := range l {
		for _, dst := range slices.Concat(l, []api.Abs{{}}) {
			s := begun(regs(2, v, 8, dst), held(7), next(8))
			b.tells(t, s, "mov r8, r2", with(s, regs(8, v)))
		}
		s := begun(regs(2, v), places(-8, place(v)), held(7), next(8))
		b.tells(t, s, "mov r2, r2", s)
		b.tells(t, s, "mov r0, r10", with(s, regs(0, stack(0))))
		b.tells(t, s, "mov r2, r10", with(s, regs(2, stack(0))))
	}
	for _, c := range immediates {
		s := begun(regs(4, context(0)))
		b.tells(t, s, "mov r4, "+strconv.Itoa(int(c)), with(s, regs(4, one(uint64(int64(c))))))
		b.tells(t, s, "mov32 r4, "+strconv.Itoa(int(c)), with(s, regs(4, one(uint64(uint32(c))))))
	}
}

func TestMovOf32Bits(t *testing.T) { // P19.2
	b := usual()
	for _, x := range numbers() {
		for _, dst := range slices.Concat(others(), []api.Abs{{}, one(7), anything(), from(1, 1<<40)}) {
			s := begun(regs(2, known(x), 8, dst), held(7), next(8))
			y, _ := xfer.Do(api.Mov, false, dst.Num, x)
			b.tells(t, s, "mov32 r8, r2", with(s, regs(8, known(y))))
		}
	}
	s := begun(regs(2, anything(), 3, from(5, 9), 4, one(1<<32+6)))
	b.tells(t, s, "mov32 r2, r2", with(s, regs(2, from(0, 1<<32-1))))
	b.tells(t, s, "mov32 r0, r2", with(s, regs(0, from(0, 1<<32-1))))
	b.tells(t, s, "mov32 r0, r3", with(s, regs(0, from(5, 9))))
	b.tells(t, s, "mov32 r0, r4", with(s, regs(0, one(6))))
	b.tells(t, s, "mov32 r1, r4", with(s, regs(1, one(6))))
}

func TestMovesByOneNumber(t *testing.T) { // P19.2
	b := usual()
	distances := []int{0, 1, -1, 8, -64, 63, 4095, -4095, 4096, -4096, 4097, -4097, 8191, 8192, -8192, 8193, math.MaxInt32, math.MinInt32}
	for _, p := range pointers() {
		for _, ends := range [][2]int{{0, 0}, {-64, -64}, {-4096, -4096}, {4096, 4096}, {-4095, -4095}, {4095, 4095}, {0, 9}, {-4096, 4095}, {-4095, 4096}, {4000, 4090}, {-4090, -4000}} {
			if (p.Kind <= api.AbsObj) && ends[0] != ends[1] {
				continue
			}
			p := at(p, ends[0], ends[1])
			for _, by := range distances {
				b.moves(t, p, by)
			}
		}
	}
}

// moves asks for both ways of a move by a number, that an instruction or a register has.
func (b bench) moves(t *testing.T, p api.Abs, by int) {
	t.Helper()
	s := begun(regs(3, p, 4, one(uint64(int64(by)))), held(7), next(8))
	for word, sign := range map[string]int{"add": 1, "sub": -1} {
		lo, hi := p.Lo+sign*by, p.Hi+sign*by
		for _, second := range []string{strconv.Itoa(by), "r4"} {
			line := word + " r3, " + second
			if by < -4096 || by > 4096 || lo < -4096 || hi > 4096 || hi < -4096 || lo > 4096 {
				b.refuses(t, s, line)
			} else {
				b.tells(t, s, line, with(s, regs(3, at(p, lo, hi))))
			}
		}
	}
}

func TestMovesByFarNumbers(t *testing.T) { // P19.2
	b := usual()
	for _, p := range pointers() {
		for _, c := range []uint64{4097, 1 << 12, 1 << 13, 1 << 31, 1<<32 - 4096, 1 << 32, 1<<32 + 8, 1<<63 - 1, 1 << 63, 1<<63 + 1, math.MaxUint64 - 4096, math.MaxUint64 - 4095} {
			s := begun(regs(3, at(p, 0, 0), 4, one(c)), held(7), next(8))
			far := int64(c) < -4096 || int64(c) > 4096
			for word, sign := range map[string]int{"add": 1, "sub": -1} {
				if far {
					b.refuses(t, s, word+" r3, r4")
				} else {
					b.tells(t, s, word+" r3, r4", with(s, regs(3, at(p, sign*int(c), sign*int(c)))))
				}
			}
		}
	}
}

func TestMovesByWhatHasOneNumber(t *testing.T) { // P19.2
	b := usual()
	// Its bits tell the only number, though its bounds don't yet.
	x := api.Num{Bits: api.Tnum{Value: 8}, ULo: 3, UHi: 9, SLo: -20, SHi: 5000}
	for _, p := range pointers() {
		s := begun(regs(3, at(p, 0, 0), 4, known(x)), held(7), next(8))
		b.tells(t, s, "add r3, r4", with(s, regs(3, at(p, 8, 8))))
		b.tells(t, s, "sub r3, r4", with(s, regs(3, at(p, -8, -8))))
	}
}

func TestMovesByRanges(t *testing.T) { // P19.2
	b := usual()
	for _, p := range pointers() {
		for _, ends := range [][2]int{{0, 0}, {-5, 7}, {-4096, 0}, {-4096, 1}, {0, 4096}, {1, 4095}, {4096, 4096}, {-4096, -4096}} {
			for _, by := range [][2]uint64{{0, 1}, {1, 8}, {0, 4095}, {0, 4096}, {4095, 4096}, {0, 4097}, {4096, 4097}, {1, 1 << 32}, {1, 1 << 63}, {0, math.MaxUint64}, {math.MaxUint64 - 1, math.MaxUint64}} {
				ranges := p.Kind == api.AbsSlot || p.Kind == api.AbsRecord
				p := p
				p.Lo, p.Hi = ends[0], ends[1]
				if !ranges {
					p.Hi = p.Lo
				}
				s := begun(regs(3, p, 4, from(by[0], by[1])), held(7), next(8))
				b.refuses(t, s, "sub r3, r4")
				lo, hi := p.Lo+int(by[0]), p.Hi+int(by[1])
				if ranges && by[1] <= 4096 && lo <= 4096 && hi <= 4096 {
					b.tells(t, s, "add r3, r4", with(s, regs(3, at(p, lo, hi))))
				} else {
					b.refuses(t, s, "add r3, r4")
				}
			}
		}
	}
	// Its bits alone tell that it is at most 12.
	s := begun(regs(3, slot(0, 5), 4, anything()), next(6))
	s, _ = b.do(t, s, code(t, "and r4, 12")...)
	b.tells(t, s, "add r3, r4", with(s, regs(3, at(slot(0, 5), 0, 12))))
}

func TestMovesTurnOneRegister(t *testing.T) { // P19.2
	b := usual()
	p := record(9, 7)
	s := begun(regs(3, p, 4, p, 5, at(p, 1, 2)), places(-8, place(p)), held(7), next(8))
	b.tells(t, s, "add r3, 5", with(s, regs(3, at(p, 5, 5))))
	b.tells(t, s, "sub r5, 1", with(s, regs(5, at(p, 0, 1))))
}

func TestOperationsThatAreRefused(t *testing.T) { // P19.2
	b := usual()
	every := append(operations(), api.Neg)
	for _, class := range []byte{api.ClassAlu, api.ClassAlu64} {
		for _, v := range append(others(), api.Abs{}) {
			s := begun(regs(2, v, 3, one(1), 4, from(1, 2), 5, v), held(7), next(8))
			moves := isPointer(v) && !v.Null && class == api.ClassAlu64
			for _, op := range every {
				i := api.Inst{Op: op | class, Dst: 2}
				if !moves || op > api.Sub {
					// Even by 0, and whatever the second one is.
					b.refusesInst(t, s, i)
					if op != api.Neg {
						i.Op |= api.FromReg
						i.Src = 3
						b.refusesInst(t, s, i)
						i.Src = 4
						b.refusesInst(t, s, i)
					}
				}
				if op != api.Neg {
					// A number, or the same, and then what is none.
					b.refusesInst(t, s, api.Inst{Op: op | class | api.FromReg, Dst: 3, Src: 2})
					b.refusesInst(t, s, api.Inst{Op: op | class | api.FromReg, Dst: 4, Src: 2})
					b.refusesInst(t, s, api.Inst{Op: op | class | api.FromReg, Dst: 2, Src: 2})
					b.refusesInst(t, s, api.Inst{Op: op | class | api.FromReg, Dst: 2, Src: 5})
					b.refusesInst(t, s, api.Inst{Op: op | class | api.FromReg, Dst: 2, Src: 10})
				}
			}
			if class == api.ClassAlu || v.Kind == api.AbsNone {
				b.refusesInst(t, s, api.Inst{Op: api.Mov | class | api.FromReg, Dst: 3, Src: 2})
				b.refusesInst(t, s, api.Inst{Op: api.Mov | class | api.FromReg, Dst: 0, Src: 2})
				b.refusesInst(t, s, api.Inst{Op: api.Mov | class | api.FromReg, Dst: 2, Src: 2})
			}
		}
	}
}

func (b bench) refusesInst(t *testing.T, s api.AState, i api.Inst) {
	t.Helper()
	if got, ok := b.do(t, s, i); ok || !same(got, api.AState{}) {
		t.Errorf("%s isn't refused: %s", textOfInst(i), difference(got, api.AState{}))
	}
}

func TestNumbersWithoutAValue(t *testing.T) { // P19.2
	b := usual()
	s := begun(regs(3, one(1)))
	for _, op := range operations() {
		for _, class := range []byte{api.ClassAlu, api.ClassAlu64} {
			b.refusesInst(t, s, api.Inst{Op: op | class, Dst: 2, Imm: 1})
			b.refusesInst(t, s, api.Inst{Op: op | class | api.FromReg, Dst: 2, Src: 3})
			b.refusesInst(t, s, api.Inst{Op: op | class | api.FromReg, Dst: 3, Src: 2})
		}
	}
	b.refuses(t, s, "neg r2")
	b.refuses(t, s, "neg32 r2")
	b.refuses(t, s, "mov r3, r2")
	b.refuses(t, s, "mov32 r3, r2")
	b.refuses(t, s, "add r1, r2")
	b.refuses(t, s, "sub r1, r2")
}
