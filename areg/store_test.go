package areg_test

import (
	"math"
	"slices"
	"strconv"
	"testing"

	"halberd/api"
	"halberd/samples"
)

// stored tells a state with bytes that have values, in places that nothing fills.
func stored(s api.AState, off, n int) api.AState {
	for b := off + 64; b < off+64+n; b++ {
		p := &s.Places[b/8]
		if p.V.Kind > api.AbsNum {
			*p = api.APlace{}
		}
		p.V = api.Abs{}
		p.Have[b%8] = true
	}
	return s
}

func TestStoresOfNumbersToTheStack(t *testing.T) { // P19.4
	b := usual()
	for _, n := range sizes {
		for off := -64 - 10; off <= 10; off++ {
			for _, lo := range []int{0, off, -64, 64, off + 4000, off - 4000} {
				s := begun(regs(2, stack(lo), 3, from(3, 9)), held(7), next(8))
				for source, v := range map[string]api.Abs{"-5": one(math.MaxUint64 - 4), "r3": from(3, 9)} {
					line := "st" + strconv.Itoa(n) + " [r2" + at0(off-lo) + ", " + source
					switch {
					case off < -64 || off+n > 0:
						b.refuses(t, s, line)
					case n == 8 && off%8 == 0:
						b.tells(t, s, line, with(s, places(off, place(v))))
					default:
						b.tells(t, s, line, stored(s, off, n))
					}
				}
			}
		}
	}
}

func TestStoresByTheStacksRegister(t *testing.T) { // P19.4
	b := usual()
	s := begun(regs(3, anything()))
	b.tells(t, s, "st1 [r10-1], 300", with(s, places(-8, bytesAt(7))))
	b.tells(t, s, "st2 [r10-64], 1", with(s, places(-64, bytesAt(0, 1))))
	b.tells(t, s, "st4 [r10-10], r3", with(s, places(-16, bytesAt(6, 7), -8, bytesAt(0, 1))))
	b.tells(t, s, "st8 [r10-15], 0", with(s, places(-16, bytesAt(1, 2, 3, 4, 5, 6, 7), -8, bytesAt(0))))
	b.tells(t, s, "st8 [r10-16], 0", with(s, places(-16, place(one(0)))))
	b.tells(t, s, "st8 [r10-8], r3", with(s, places(-8, place(anything()))))
	for _, line := range []string{"st1 [r10+0], 1", "st1 [r10-65], 1", "st2 [r10-1], 1", "st4 [r10-3], 1", "st8 [r10-7], 1", "st8 [r10-65], 1"} {
		b.refuses(t, s, line)
	}
}

func TestStoresOfEachImmediate(t *testing.T) { // P19.4
	b := usual()
	for _, c := range immediates {
		s := begun()
		b.tells(t, s, "st8 [r10-24], "+strconv.Itoa(int(c)), with(s, places(-24, place(one(uint64(int64(c)))))))
		b.tells(t, s, "st8 [r10-25], "+strconv.Itoa(int(c)), stored(s, -25, 8))
		b.tells(t, s, "st4 [r10-24], "+strconv.Itoa(int(c)), stored(s, -24, 4))
	}
}

func TestStoresOfNumbersAsTheyAreKnown(t *testing.T) { // P19.4
	b := usual()
	odd := known(api.Num{Bits: api.Tnum{Value: 4, Mask: 3}, ULo: 4, UHi: 9, SLo: -3, SHi: 8})
	for _, v := range append([]api.Abs{odd}, one(5), anything(), from(2, 1<<40)) {
		s := begun(regs(3, v))
		b.tells(t, s, "st8 [r10-32], r3", with(s, places(-32, place(v))))
		b.tells(t, s, "st4 [r10-32], r3", stored(s, -32, 4))
	}
}

func TestStoresOverPlaces(t *testing.T) { // P19.4
	b := usual()
	for _, v := range fillings() {
		for _, beside := range []api.APlace{nothing(), bytesAt(0, 7), place(from(1, 2)), place(stack(-3)), place(orNull(slot(1, 5)))} {
			s := begun(regs(3, from(3, 9)), places(-40, beside, -32, place(v), -24, beside), held(7), next(8))
			for _, n := range sizes {
				for off := -44; off <= -18; off++ {
					want := stored(s, off, n)
					if n == 8 && off%8 == 0 {
						want = with(s, places(off, place(from(3, 9))))
					}
					b.tells(t, s, "st"+strconv.Itoa(n)+" [r10"+at0(off)+", r3", want)
				}
			}
		}
	}
}

func TestStoresOverPlacesByHand(t *testing.T) { // P19.4
	b := usual()
	s := begun(places(-16, place(context(0)), -8, place(one(5))))
	// What a number filled has values still, though it isn't known which.
	b.tells(t, s, "st1 [r10-5], 1", with(s, places(-8, bytesAt(0, 1, 2, 3, 4, 5, 6, 7))))
	// Something else leaves none.
	b.tells(t, s, "st1 [r10-13], 1", with(s, places(-16, bytesAt(3))))
	b.tells(t, s, "st4 [r10-10], 1", with(s, places(-16, bytesAt(6, 7), -8, bytesAt(0, 1, 2, 3, 4, 5, 6, 7))))
	b.tells(t, s, "st8 [r10-16], 1", with(s, places(-16, place(one(1)))))
	b.tells(t, s, "st8 [r10-16], r10", with(s, places(-16, place(stack(0)))))
	b.tells(t, s, "st8 [r10-8], r1", with(s, places(-8, place(context(0)))))
	// Of no place that something else fills bytes have values.
	b.tells(t, with(s, places(-16, withBytes(context(0), true))), "st2 [r10-16], 1", with(s, places(-16, bytesAt(0, 1))))
	// Bytes that had values have them beside those that are stored.
	s = begun(places(-16, bytesAt(0, 2)))
	b.tells(t, s, "st2 [r10-12], 1", with(s, places(-16, bytesAt(0, 2, 4, 5))))
	b.tells(t, s, "st1 [r10-16], 1", s)
	b.tells(t, s, "st8 [r10-16], r1", with(s, places(-16, place(context(0)))))
}

func TestStoresOfSomethingElse(t *testing.T) { // P19.4
	b := usual()
	l := slices.Concat(others(), []api.Abs{at(slot(0, 5), -2, 3000), at(task(3), 4096, 4096), context(-16)})
	for _, v := range l {
		for _, was := range []api.APlace{nothing(), bytesAt(0, 5), place(one(4)), place(stack(0)), place(orNull(record(9, 7)))} {
			for off := -64; off < 0; off += 8 {
				s := begun(regs(3, v), places(off, was), held(7), next(8))
				b.tells(t, s, "st8 [r10"+at0(off)+", r3", with(s, places(off, place(v))))
			}
			s := begun(regs(3, v, 4, stack(-30)), places(-24, was, -32, was), held(7), next(8))
			for off := -44; off <= -16; off++ {
				for _, n := range sizes {
					if n != 8 || off%8 != 0 {
						b.refuses(t, s, "st"+strconv.Itoa(n)+" [r10"+at0(off)+", r3")
					}
				}
			}
			b.tells(t, s, "st8 [r4-2], r3", with(s, places(-32, place(v))))
			b.refuses(t, s, "st8 [r4+0], r3")
			b.refuses(t, s, "st8 [r10+0], r3")
			b.refuses(t, s, "st8 [r10-72], r3")
		}
	}
}

func TestStoresToSlotsAndRecords(t *testing.T) { // P19.4
	for _, x := range someBytes() {
		b := bench{hook: api.HookOpen, defs: x.defs}
		for _, n := range sizes {
			for _, ends := range ranges(n, x.size) {
				for _, off := range []int{0, -1, 32, -4000} {
					lo, hi := ends[0]-off, ends[1]-off
					if lo < -api.MaxOff || hi > api.MaxOff {
						continue
					}
					s := begun(full, regs(2, at(x.v, lo, hi), 3, anything(), 4, stack(-8)), x.turn, next(10))
					number := api.Inst{Op: stores(n), Dst: 2, Off: int16(off), Imm: -1}
					register := api.Inst{Op: stores(n) + 1, Dst: 2, Src: 3, Off: int16(off)}
					for _, i := range []api.Inst{number, register} {
						if ends[0] >= 0 && ends[1]+n <= x.size {
							b.tellsInst(t, s, i, s)
						} else {
							b.refusesInst(t, s, i)
						}
					}
					register.Src = 4
					b.refusesInst(t, s, register)
				}
			}
		}
	}
}

func TestStoresToSlotsByTheirMap(t *testing.T) { // P19.4
	b := usual()
	for m, size := range []int{8, 12, 32} {
		s := begun(regs(2, slot(m, 1)), next(2))
		b.tells(t, s, "st8 [r2"+at0(size-8)+", 1", s)
		b.refuses(t, s, "st8 [r2"+at0(size-7)+", 1")
	}
	for _, m := range append(samples.Outside(0, 2), 3, -1) {
		b.refuses(t, begun(regs(2, slot(m, 1)), next(2)), "st1 [r2+0], 1")
	}
	for _, ids := range [][]int{nil, {6}, {8, 9}} {
		b.refuses(t, begun(regs(2, record(8, 7)), held(ids...), next(10)), "st1 [r2+0], 1")
	}
	s := begun(regs(2, record(8, 7), 7, record(8, 9)), held(1, 7), next(10))
	b.tells(t, s, "st8 [r2+0], 1", s)
	b.refuses(t, s, "st8 [r7+0], 1")
}

func TestStoresThatAreRefused(t *testing.T) { // P19.4
	b := usual()
	// To what has no bytes, or none to be written.
	for _, v := range slices.Concat(mayBeNull(), []api.Abs{{}, one(0), anything(), aMap(0), aMap(3), context(0), context(8), task(1), inode(2)}) {
		s := begun(full, regs(2, v, 3, one(1), 4, v), held(7), next(8))
		for _, n := range sizes {
			for _, off := range []int{0, 8, -8} {
				b.refuses(t, s, "st"+strconv.Itoa(n)+" [r2"+at0(off)+", 1")
				b.refuses(t, s, "st"+strconv.Itoa(n)+" [r2"+at0(off)+", r3")
				b.refuses(t, s, "st"+strconv.Itoa(n)+" [r2"+at0(off)+", r4")
			}
		}
	}
	// Of what has no value.
	for _, p := range []api.Abs{stack(-8), slot(0, 5), record(9, 7)} {
		s := begun(full, regs(2, p), held(7), next(8))
		for _, n := range sizes {
			b.refuses(t, s, "st"+strconv.Itoa(n)+" [r2+0], r3")
			b.refuses(t, s, "st"+strconv.Itoa(n)+" [r2+0], r0")
		}
	}
	// Of something else to a slot, or a record.
	for _, v := range others() {
		for _, p := range []api.Abs{slot(0, 15), slot(2, 15), record(9, 17)} {
			s := begun(regs(2, p, 3, v), held(7, 17), next(18))
			b.refuses(t, s, "st8 [r2+0], r3")
			b.refuses(t, s, "st1 [r2+0], r3")
		}
	}
}

func TestStoresOfOneself(t *testing.T) { // P19.4
	b := usual()
	s := begun(regs(2, stack(-8), 3, slot(0, 4)), next(5))
	b.tells(t, s, "st8 [r2+0], r2", with(s, places(-8, place(stack(-8)))))
	b.refuses(t, s, "st4 [r2+0], r2")
	b.refuses(t, s, "st8 [r3+0], r3")
	b.tells(t, s, "st8 [r10-8], r10", with(s, places(-8, place(stack(0)))))
}
