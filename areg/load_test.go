package areg_test

import (
	"math"
	"slices"
	"strconv"
	"testing"

	"halberd/api"
	"halberd/areg"
	"halberd/inst"
	"halberd/num"
	"halberd/samples"
)

var sizes = []int{1, 2, 4, 8}

// loads tells the opcode that loads so many bytes, stores the one that stores a number.
func loads(n int) byte  { return 0x61 | map[int]byte{1: 0x10, 2: 0x08, 4: 0x00, 8: 0x18}[n] }
func stores(n int) byte { return loads(n) + 1 }

// full has a stack all of whose bytes have values, of which nothing is known.
func full(s *api.AState) {
	for p := range s.Places {
		s.Places[p] = bytesAt(0, 1, 2, 3, 4, 5, 6, 7)
	}
}

// at0 tells a place as it is written behind a register.
func at0(off int) string {
	if off < 0 {
		return strconv.Itoa(off) + "]"
	}
	return "+" + strconv.Itoa(off) + "]"
}

func TestLoadsOfBytesOfTheStack(t *testing.T) { // P19.3
	b := usual()
	s := begun(full, held(7), next(8))
	for _, n := range sizes {
		for lo := -64 - 12; lo <= 12; lo++ {
			for _, off := range []int{0, -1, 1, -64, 64, -lo, lo, -4000, 4000} {
				s := with(s, regs(2, stack(lo-off)))
				line := "ld" + strconv.Itoa(n) + " r0, [r2" + at0(off)
				if lo >= -64 && lo <= -n {
					b.tells(t, s, line, with(s, regs(0, bytesOf(n))))
				} else {
					b.refuses(t, s, line)
				}
			}
		}
	}
	for _, off := range []int16{math.MinInt16, math.MaxInt16} {
		for _, n := range sizes {
			b.refusesInst(t, s, api.Inst{Op: loads(n), Src: 10, Off: off})
		}
	}
	for _, far := range []int{-4096, 4096} {
		s := with(s, regs(2, stack(far)))
		b.refuses(t, s, "ld1 r0, [r2+0]")
		b.tells(t, s, "ld1 r0, [r2"+at0(-far-1), with(s, regs(0, from(0, 255))))
		b.refuses(t, s, "ld1 r0, [r2"+at0(-far))
		b.refuses(t, s, "ld8 r0, [r2"+at0(-far-65))
	}
}

func TestLoadsByTheStacksRegister(t *testing.T) { // P19.3
	b := usual()
	s := begun(full)
	b.tells(t, s, "ld1 r0, [r10-1]", with(s, regs(0, from(0, 255))))
	b.tells(t, s, "ld2 r1, [r10-64]", with(s, regs(1, from(0, 65535))))
	b.tells(t, s, "ld4 r9, [r10-5]", with(s, regs(9, from(0, 1<<32-1))))
	b.tells(t, s, "ld8 r0, [r10-8]", with(s, regs(0, anything())))
	b.tells(t, s, "ld8 r0, [r10-9]", with(s, regs(0, anything())))
	b.refuses(t, s, "ld1 r0, [r10+0]")
	b.refuses(t, s, "ld1 r0, [r10-65]")
	b.refuses(t, s, "ld8 r0, [r10-7]")
	b.refuses(t, s, "ld8 r0, [r10-65]")
	s = with(s, regs(2, stack(-8)))
	b.tells(t, s, "ld4 r2, [r2+4]", with(s, regs(2, from(0, 1<<32-1))))
}

// fillings has what may fill a place.
func fillings() []api.Abs {
	return slices.Concat(others(), []api.Abs{one(0), one(7), anything(), from(3, 9), at(slot(0, 5), 2, 3000)})
}

func TestLoadsOfWholePlaces(t *testing.T) { // P19.3
	b := usual()
	for _, v := range fillings() {
		for off := -64; off < 0; off += 8 {
			s := begun(places(off, place(v)), regs(9, stack(16)), held(7), next(8))
			b.tells(t, s, "ld8 r0, [r10"+at0(off), with(s, regs(0, v)))
			b.tells(t, s, "ld8 r9, [r9"+at0(off-16), with(s, regs(9, v)))
			// Beside it nothing has a value.
			for other := -64; other < 0; other += 8 {
				if other != off {
					b.refuses(t, s, "ld8 r0, [r10"+at0(other))
					b.refuses(t, s, "ld1 r0, [r10"+at0(other))
				}
			}
		}
	}
}

func TestLoadsOfPartsOfPlaces(t *testing.T) { // P19.3
	b := usual()
	for _, v := range fillings() {
		// What stands beside it has values.
		s := begun(full, places(-32, place(v)), held(7), next(8))
		for _, n := range sizes {
			for off := -44; off <= -20; off++ {
				line := "ld" + strconv.Itoa(n) + " r0, [r10" + at0(off)
				switch touched := off < -24 && off+n > -32; {
				case n == 8 && off == -32:
					b.tells(t, s, line, with(s, regs(0, v)))
				case touched && v.Kind != api.AbsNum:
					b.refuses(t, s, line)
				default:
					b.tells(t, s, line, with(s, regs(0, bytesOf(n))))
				}
			}
		}
	}
}

func TestLoadsOfBytesWithoutAValue(t *testing.T) { // P19.3
	b := usual()
	for hole := -64; hole < 0; hole++ {
		s := begun(full, held(7), next(8))
		s.Places[(hole+64)/8].Have[(hole+64)%8] = false
		for _, n := range sizes {
			for off := max(-64, hole-9); off <= min(hole+2, -n); off++ {
				line := "ld" + strconv.Itoa(n) + " r0, [r10" + at0(off)
				if off <= hole && hole < off+n {
					b.refuses(t, s, line)
				} else {
					b.tells(t, s, line, with(s, regs(0, bytesOf(n))))
				}
			}
		}
	}
	s := begun(places(-16, bytesAt(3, 4, 5, 6, 7), -8, bytesAt(0, 1, 2)))
	b.tells(t, s, "ld8 r0, [r10-13]", with(s, regs(0, anything())))
	b.refuses(t, s, "ld8 r0, [r10-14]")
	b.refuses(t, s, "ld8 r0, [r10-12]")
	b.tells(t, s, "ld4 r0, [r10-10]", with(s, regs(0, from(0, 1<<32-1))))
}

func TestLoadsOfAllWords(t *testing.T) { // P19.3
	for hook, shape := range samples.Shapes() {
		b := bench{hook: hook}
		for w := -2; w < 10; w++ {
			for _, from := range []int{0, 8 * w, -8, 3, 4096, -4096} {
				s := begun(regs(1, context(from)), next(5))
				line := "ld8 r6, [r1" + at0(8*w-from)
				letter := byte('-')
				if w >= 0 && w < 8 {
					letter = shape[w]
				}
				switch letter {
				case 'n':
					b.tells(t, s, line, with(s, regs(6, anything())))
				case 'T':
					b.tells(t, s, line, with(s, regs(6, task(5)), next(6)))
				case 'I':
					b.tells(t, s, line, with(s, regs(6, inode(5)), next(6)))
				case 'i':
					b.tells(t, s, line, with(s, regs(6, orNull(inode(5))), next(6)))
				default:
					b.refuses(t, s, line)
				}
			}
		}
	}
}

func TestLoadsOfWordsByHand(t *testing.T) { // P19.3
	b := bench{hook: api.HookExec}
	s := begun()
	got, _ := b.do(t, s, code(t, "ld8 r6, [r1+0]")...)
	got, _ = b.do(t, got, code(t, "ld8 r7, [r1+8]")...)
	got, _ = b.do(t, got, code(t, "ld8 r8, [r1+16]")...)
	got, _ = b.do(t, got, code(t, "ld8 r1, [r1+0]")...)
	if want := begun(regs(1, task(4), 6, task(1), 7, inode(2), 8, orNull(inode(3))), next(5)); !same(got, want) {
		t.Errorf("of exec: %s", difference(got, want))
	}
	b.hook = api.HookFork
	s = begun(regs(2, context(16)), next(9))
	b.tells(t, s, "ld8 r2, [r2-8]", with(s, regs(2, anything())))
	b.tells(t, s, "ld8 r2, [r2-16]", with(s, regs(2, task(9)), next(10)))
	b.refuses(t, s, "ld8 r2, [r2+0]")
}

func TestLoadsThatAreNoWord(t *testing.T) { // P19.3
	b := bench{hook: api.HookCreate}
	s := begun(next(5))
	for off := -20; off <= 90; off++ {
		for _, n := range sizes {
			line := "ld" + strconv.Itoa(n) + " r0, [r1" + at0(off)
			if n != 8 || off%8 != 0 || off < 0 || off > 24 {
				b.refuses(t, s, line)
			} else if _, ok := b.do(t, s, code(t, line)...); !ok {
				t.Errorf("%s is refused", line)
			}
		}
	}
	for _, far := range []int{-4096, 4096, -4095, 4095, 4088} {
		b.refuses(t, with(s, regs(1, context(far))), "ld8 r0, [r1+0]")
	}
	for _, hook := range append(samples.Outside(1, 16), 0, 17, -1) {
		b := bench{hook: hook}
		b.refuses(t, s, "ld8 r0, [r1+0]")
		b.refuses(t, s, "ld8 r0, [r1+8]")
	}
}

func TestLoadsOfWordsAtSeveralOffsets(t *testing.T) { // P19.3
	b := bench{hook: api.HookCreate}
	// Which word it is isn't known, though all of these are there.
	for _, ends := range [][2]int{{0, 8}, {16, 24}, {0, 1}, {0, 24}, {8, 4096}, {-8, 0}} {
		s := begun(regs(2, at(context(0), ends[0], ends[1])), next(5))
		b.refuses(t, s, "ld8 r0, [r2+0]")
	}
	s := begun(regs(2, at(context(0), -8, 16)), next(5))
	b.refuses(t, s, "ld8 r0, [r2+8]")
}

func TestLoadsOfObjects(t *testing.T) { // P19.3
	b := usual()
	for _, v := range []api.Abs{task(3), inode(4)} {
		for _, n := range sizes {
			for off := -9; off <= 72; off++ {
				for _, lo := range []int{0, off, 64, -8, 4096, -4096} {
					s := begun(regs(2, at(v, lo, lo)), next(5))
					line := "ld" + strconv.Itoa(n) + " r0, [r2" + at0(off-lo)
					if off >= 0 && off+n <= 64 {
						b.tells(t, s, line, with(s, regs(0, bytesOf(n))))
					} else {
						b.refuses(t, s, line)
					}
				}
			}
		}
		s := begun(regs(2, v), next(5))
		b.tells(t, s, "ld8 r2, [r2+56]", with(s, regs(2, anything())))
	}
}

// bytesOfSome are those of a slot, or of a record, in a state in which it has them.
type bytesOfSome struct {
	v    api.Abs
	size int
	turn func(*api.AState)
	defs []api.MapDef
}

func someBytes() []bytesOfSome {
	var l []bytesOfSome
	for _, n := range []int{1, 2, 3, 7, 8, 9, 31, 32} {
		l = append(l, bytesOfSome{record(n, 7), n, held(3, 7, 9), nil})
		for kind := api.MapArray; kind <= api.MapTask; kind++ {
			defs := []api.MapDef{anArray, {Kind: kind, Value: n}, audits}
			l = append(l, bytesOfSome{slot(1, 7), n, held(3, 9), defs})
		}
	}
	return l
}

// ranges has offsets of which the least and the greatest byte is at an edge, or one beyond it.
func ranges(n, size int) [][2]int {
	var l [][2]int
	for _, lo := range []int{-1, 0, 1, size - n - 1, size - n, size - n + 1, size - 1, size} {
		for _, hi := range []int{lo, lo + 1, size - n - 1, size - n, size - n + 1, size - 1, size, size + 1, 4096} {
			if hi >= lo {
				l = append(l, [2]int{lo, hi})
			}
		}
	}
	return l
}

func TestLoadsOfSlotsAndRecords(t *testing.T) { // P19.3
	for _, x := range someBytes() {
		b := bench{hook: api.HookOpen, defs: x.defs}
		for _, n := range sizes {
			for _, ends := range ranges(n, x.size) {
				for _, off := range []int{0, 1, -1, 32, -32, 4000} {
					lo, hi := ends[0]-off, ends[1]-off
					if lo < -api.MaxOff || hi > api.MaxOff {
						continue
					}
					s := begun(regs(2, at(x.v, lo, hi)), x.turn, next(10))
					i := api.Inst{Op: loads(n), Src: 2, Off: int16(off)}
					if ends[0] >= 0 && ends[1]+n <= x.size {
						b.tellsInst(t, s, i, with(s, regs(0, bytesOf(n))))
					} else {
						b.refusesInst(t, s, i)
					}
				}
			}
		}
	}
}

func TestLoadsOfSlotsByTheirMap(t *testing.T) { // P19.3
	b := usual()
	for m, size := range []int{8, 12, 32} {
		s := begun(regs(2, slot(m, 1)), next(2))
		b.tells(t, s, "ld1 r0, [r2"+at0(size-1), with(s, regs(0, from(0, 255))))
		b.refuses(t, s, "ld1 r0, [r2"+at0(size))
		b.tells(t, s, "ld4 r2, [r2"+at0(size-4), with(s, regs(2, from(0, 1<<32-1))))
		b.refuses(t, s, "ld4 r2, [r2"+at0(size-3))
	}
	// A ring has no slots, and other maps aren't there.
	for _, m := range append(samples.Outside(0, 2), 3, 4, -1) {
		s := begun(regs(2, slot(m, 1)), next(2))
		for _, n := range []string{"1", "8"} {
			b.refuses(t, s, "ld"+n+" r0, [r2+0]")
		}
	}
	for _, defs := range [][]api.MapDef{nil, {}, {anArray}} {
		bench{hook: 1, defs: defs}.refuses(t, begun(regs(2, slot(1, 1)), next(2)), "ld1 r0, [r2+0]")
	}
}

func TestLoadsOfRecordsThatAreNotHeld(t *testing.T) { // P19.3
	b := usual()
	for _, ids := range [][]int{nil, {}, {6}, {8}, {1, 2, 3, 4, 5, 6, 8, 9}} {
		s := begun(regs(2, record(8, 7)), held(ids...), next(10))
		b.refuses(t, s, "ld1 r0, [r2+0]")
		b.refuses(t, s, "ld8 r0, [r2+0]")
	}
	for _, ids := range [][]int{{7}, {1, 7}, {7, 9}, {6, 7, 8}} {
		s := begun(regs(2, record(8, 7)), held(ids...), next(10))
		b.tells(t, s, "ld8 r0, [r2+0]", with(s, regs(0, anything())))
	}
}

func TestLoadsOfWhatHasNoBytes(t *testing.T) { // P19.3
	b := usual()
	for _, v := range slices.Concat(mayBeNull(), []api.Abs{{}, one(0), one(8), anything(), aMap(0), aMap(1), aMap(3)}) {
		s := begun(full, regs(2, v), held(7), next(8))
		for _, n := range sizes {
			for _, off := range []int{0, 8, -8, -64} {
				b.refuses(t, s, "ld"+strconv.Itoa(n)+" r0, [r2"+at0(off))
				b.refuses(t, s, "ld"+strconv.Itoa(n)+" r2, [r2"+at0(off))
			}
		}
	}
}

func TestWide(t *testing.T) { // P19.3
	b := usual()
	for _, x := range []uint64{0, 1, 5, 1<<31 - 1, 1 << 31, 1<<32 - 1, 1 << 32, 1<<32 + 7, 1<<63 - 1, 1 << 63, math.MaxUint64} {
		for _, v := range append(others(), api.Abs{}, one(3)) {
			s := begun(full, regs(4, v, 5, v), held(7), next(8))
			l := inst.Pair(api.LdWide, 4, 0, x)
			if got, _ := b.do(t, s, l[:]...); !same(got, with(s, regs(4, one(x)))) {
				t.Errorf("%d: %s", x, difference(got, with(s, regs(4, one(x)))))
			}
		}
	}
	for m := range 4 {
		s := begun(full, regs(4, one(3), 9, aMap(0)), held(7), next(8))
		b.tells(t, s, "map r4, "+strconv.Itoa(m), with(s, regs(4, aMap(m))))
		b.tells(t, s, "map r9, "+strconv.Itoa(m), with(s, regs(9, aMap(m))))
		b.tells(t, s, "lddw r1, "+strconv.Itoa(m), with(s, regs(1, one(uint64(m)))))
	}
	b.tells(t, begun(), "lddw r0, -2", begun(regs(0, one(math.MaxUint64-1))))
}

func TestTheNextIdIsEachTimeAnother(t *testing.T) { // P19.3, P19.5
	b := bench{hook: api.HookKill, defs: []api.MapDef{anArray, tasks, audits}}
	s := begun(places(-8, bytesAt(4, 5, 6, 7)), regs(9, context(0)))
	for _, line := range []string{
		"ld8 r6, [r9+0]", "ld8 r7, [r9+8]", "ld8 r8, [r9+16]", "map r1, 0", "mov r2, r10", "add r2, -4", "call 1", "mov r8, r0",
		"map r1, 1", "mov r2, r6", "mov r3, 0", "call 5", "st8 [r10-16], r0", "map r1, 2", "mov r2, 3", "call 8", "st8 [r10-24], r0", "ld8 r5, [r9+0]",
		"map r1, 2", "mov r2, 4", "call 8", "ld8 r9, [r9+8]",
	} {
		got, ok := b.do(t, s, code(t, line)...)
		if !ok {
			t.Fatalf("%s is refused", line)
		}
		s = got
	}
	want := begun(regs(0, orNull(record(4, 7)), 1, api.Abs{}, 6, task(1), 7, task(2), 8, orNull(slot(0, 3)), 9, task(8)),
		places(-8, bytesAt(4, 5, 6, 7), -16, place(orNull(slot(1, 4))), -24, place(orNull(record(3, 5)))), held(5, 7), next(9))
	if !same(s, want) {
		t.Errorf("%s", difference(s, want))
	}
}

func TestNumbersThatAreLoaded(t *testing.T) { // P19.3
	// They are what num tells, whatever that is.
	for n, x := range map[int]api.Num{1: num.Bounds(0, 255), 2: num.Bounds(0, 65535), 4: num.Bounds(0, math.MaxUint32), 8: num.All()} {
		s := begun(full)
		for _, base := range []api.Abs{stack(-16), inode(1), slot(0, 2), record(16, 3)} {
			s := with(s, regs(4, base), held(3), next(4))
			got, ok := areg.Load(s, api.Inst{Op: loads(n), Dst: 5, Src: 4}, api.HookOpen, []api.MapDef{anArray})
			if !ok || got.Regs[5] != (api.Abs{Kind: api.AbsNum, Num: x}) {
				t.Errorf("%d bytes of %s: %v, %s", n, textOf(base), ok, textOf(got.Regs[5]))
			}
		}
	}
}
