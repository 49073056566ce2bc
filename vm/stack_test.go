package vm

import (
	"slices"
	"strconv"
	"strings"
	"testing"

	"halberd/api"
)

// at tells an offset's place behind a register.
func at(reg string, off int) string {
	if off < 0 {
		return "[" + reg + strconv.Itoa(off) + "]"
	}
	return "[" + reg + "+" + strconv.Itoa(off) + "]"
}

func sizes() []int { return []int{1, 2, 4, 8} }

// size tells a word for so many bytes: ld4, st8.
func sized(word string, n int) string {
	return word + strconv.Itoa(n)
}

// low tells the n low bytes of a number.
func low(x uint64, n int) uint64 {
	return x << (64 - 8*n) >> (64 - 8*n)
}

const many = 0x1122334455667788

func TestEachPlaceOfTheStack(t *testing.T) { // P18.1
	b := usual(t)
	for off := -80; off <= 16; off++ {
		for _, n := range sizes() {
			there := off >= -64 && off+n <= 0
			place := at("r10", off)
			l := "lddw r2, " + strconv.Itoa(many) + "; " + sized("st", n) + " " + place + ", r2; " + sized("ld", n) + " r0, " + place + "; exit"
			if there {
				b.tells(t, l, low(many, n), 4)
				b.tells(t, sized("st", n)+" "+place+", -2; "+sized("ld", n)+" r0, "+place+"; exit", low(1<<64-2, n), 3)
				b.traps(t, sized("ld", n)+" r0, "+place+"; exit", api.TrapRead, 1)
			} else {
				b.traps(t, l, api.TrapAccess, 2)
				b.traps(t, sized("st", n)+" "+place+", 1; exit", api.TrapAccess, 1)
				b.traps(t, sized("ld", n)+" r0, "+place+"; exit", api.TrapAccess, 1)
			}
		}
	}
}

func TestTheStackByHand(t *testing.T) { // P18.1
	b := usual(t)
	b.tells(t, "st8 [r10-8], -1; st1 [r10-5], 0; ld8 r0, [r10-8]; exit", 0xFFFFFFFF00FFFFFF, 4)
	b.tells(t, "st4 [r10-8], 1; st4 [r10-4], 2; ld8 r0, [r10-8]; exit", 1<<33|1, 4)
	b.tells(t, "st8 [r10-16], 1; st8 [r10-8], 2; ld8 r0, [r10-9]; exit", 2<<8, 4)
	b.tells(t, "st2 [r10-64], 513; ld1 r0, [r10-63]; exit", 2, 3)
	b.tells(t, "mov r2, 5; st8 [r10-64], r2; mov r3, r10; add r3, -60; ld8 r0, [r3-4]; exit", 5, 6)
	b.tells(t, "mov r2, r10; st8 [r2-8], r2; ld8 r3, [r10-8]; mov r0, 9; st1 [r3-16], r0; ld1 r0, [r2-16]; exit", 9, 7)
	b.traps(t, "st8 [r10-8], 1; ld8 r0, [r10-12]; exit", api.TrapRead, 2)
	b.traps(t, "st4 [r10-8], 1; ld8 r0, [r10-8]; exit", api.TrapRead, 2)
	b.traps(t, "st1 [r10-1], 1; ld2 r0, [r10-2]; exit", api.TrapRead, 2)
	b.traps(t, "st8 [r10-8], r2; exit", api.TrapRead, 1)
	b.traps(t, "st8 [r10+0], r2; exit", api.TrapRead, 1)
	b.traps(t, "st8 [r10+32767], 1; exit", api.TrapAccess, 1)
	b.traps(t, "st8 [r10-32768], 1; exit", api.TrapAccess, 1)
}

func TestEachByteMustHaveAValue(t *testing.T) { // P18.1
	b := usual(t)
	for _, n := range sizes() {
		for off := -64; off+n <= 0; off++ {
			for missing := range n {
				var l []string
				for k := range n {
					if k != missing {
						l = append(l, "st1 "+at("r10", off+k)+", "+strconv.Itoa(k+1))
					}
				}
				load := sized("ld", n) + " r0, " + at("r10", off) + "; exit"
				b.traps(t, strings.Join(append(l, load), "; "), api.TrapRead, n)
				l = append(l, "st1 "+at("r10", off+missing)+", "+strconv.Itoa(missing+1))
				b.tells(t, strings.Join(append(l, load), "; "), low(0x0807060504030201, n), n+2)
			}
		}
	}
}

func TestStoresTurnNoOtherByte(t *testing.T) { // P18.1
	b := usual(t)
	for _, n := range sizes() {
		for off := -24; off+n <= -8; off++ {
			fill := "st8 [r10-24], -1; st8 [r10-16], -1; " + sized("st", n) + " " + at("r10", off) + ", 0; "
			for other := -24; other < -8; other++ {
				want := uint64(0xFF)
				if other >= off && other < off+n {
					want = 0
				}
				b.tells(t, fill+"ld1 r0, "+at("r10", other)+"; exit", want, 5)
			}
			b.traps(t, fill+"ld1 r0, [r10-25]; exit", api.TrapRead, 4)
			b.traps(t, fill+"ld1 r0, [r10-8]; exit", api.TrapRead, 4)
		}
	}
}

func TestAPointerInEachPlace(t *testing.T) { // P18.1
	b := usual(t)
	for _, w := range nonNumbers() {
		for off := -64; off <= -8; off += 8 {
			stored := w.lines + "; st8 " + at("r10", off) + ", r6; "
			lines, steps := ended(w)
			// What comes back is what was stored.
			back := stored + "mov r6, 0; ld8 r6, " + at("r10", off) + "; "
			b.copied().tells(t, back+lines, 0, w.steps+3+steps)
			if w.name != "a map" {
				b.copied().tells(t, back+"jeq r6, 0, +0; jne r6, 0, +0; "+lines, 0, w.steps+5+steps)
			}
			b.copied().traps(t, back+"mov r0, r6; exit", api.TrapType, w.steps+5)
			for _, n := range sizes() {
				for from := off - n + 1; from < off+8; from++ {
					if n == 8 && from == off {
						continue
					}
					trap := api.TrapType
					if from < -64 || from+n > 0 {
						trap = api.TrapAccess
					}
					b.copied().traps(t, stored+sized("ld", n)+" r0, "+at("r10", from)+"; exit", trap, w.steps+2)
				}
			}
		}
	}
}

func TestPointersComeAheadOfBytesWithoutValues(t *testing.T) { // P18.1
	b := usual(t)
	b.traps(t, "st8 [r10-16], r1; ld8 r0, [r10-12]; exit", api.TrapType, 2)
	b.traps(t, "st8 [r10-8], r1; ld8 r0, [r10-12]; exit", api.TrapType, 2)
	b.traps(t, "st8 [r10-16], r1; st8 [r10-8], 1; ld8 r0, [r10-12]; exit", api.TrapType, 3)
	b.traps(t, "st8 [r10-8], r1; st8 [r10-16], 1; ld2 r0, [r10-9]; exit", api.TrapType, 3)
	b.traps(t, "st8 [r10-8], r1; ld2 r0, [r10-9]; exit", api.TrapType, 2)
	b.traps(t, "st8 [r10-8], r1; ld4 r0, [r10-12]; exit", api.TrapRead, 2)
	b.traps(t, "st8 [r10-8], r1; st8 [r10-16], r10; ld8 r0, [r10-12]; exit", api.TrapType, 3)
	b.traps(t, "st8 [r10-16], r1; ld8 r0, [r10-8]; exit", api.TrapRead, 2)
}

func TestAPointerIsWrittenOver(t *testing.T) { // P18.1
	b := usual(t)
	for _, n := range sizes() {
		for from := -24 - n + 1; from < -16; from++ {
			over := "st8 [r10-24], r1; " + sized("st", n) + " " + at("r10", from) + ", -1; "
			for other := -32; other < -8; other++ {
				if other >= from && other < from+n {
					b.tells(t, over+"ld1 r0, "+at("r10", other)+"; exit", 0xFF, 4)
				} else {
					b.traps(t, over+"ld1 r0, "+at("r10", other)+"; exit", api.TrapRead, 3)
				}
			}
			if n != 8 || from != -24 {
				b.traps(t, over+"ld8 r0, [r10-24]; exit", api.TrapRead, 3)
			}
		}
	}
	b.tells(t, "st8 [r10-24], r1; st8 [r10-24], 7; ld8 r0, [r10-24]; exit", 7, 4)
	b.tells(t, "st8 [r10-24], 7; st8 [r10-24], r1; ld8 r1, [r10-24]; ld8 r0, [r1+16]; exit", 42, 5)
	b.tells(t, "st8 [r10-24], r10; st8 [r10-24], r1; ld8 r1, [r10-24]; ld8 r0, [r1+16]; exit", 42, 5)
	// The bytes that were there ahead of the pointer don't come back.
	b.traps(t, "st8 [r10-24], 7; st8 [r10-24], r1; st1 [r10-24], 1; ld1 r0, [r10-23]; exit", api.TrapRead, 4)
	// A number across two places takes the pointers of both.
	b.traps(t, "st8 [r10-24], r1; st8 [r10-16], r1; st2 [r10-17], 1; ld8 r0, [r10-24]; exit", api.TrapRead, 4)
	b.traps(t, "st8 [r10-24], r1; st8 [r10-16], r1; st2 [r10-17], 1; ld8 r0, [r10-16]; exit", api.TrapRead, 4)
	b.tells(t, "st8 [r10-24], r1; st8 [r10-16], r1; st2 [r10-17], 258; ld2 r0, [r10-17]; exit", 258, 5)
	b.tells(t, "st8 [r10-32], r1; st8 [r10-8], r1; st8 [r10-20], 3; ld8 r2, [r10-32]; ld8 r3, [r10-8]; ld8 r0, [r3+24]; exit", 43, 7)
}

func TestPointersAreStoredToPlacesAlone(t *testing.T) { // P18.1
	b := usual(t)
	for _, w := range nonNumbers() {
		for off := -80; off <= 8; off++ {
			for _, n := range sizes() {
				lines := w.lines + "; " + sized("st", n) + " " + at("r10", off) + ", r6; "
				switch {
				case off < -64 || off+n > 0:
					b.copied().traps(t, lines+"exit", api.TrapAccess, w.steps+1)
				case n != 8 || off%8 != 0:
					b.copied().traps(t, lines+"exit", api.TrapType, w.steps+1)
				default:
					end, steps := ended(w)
					b.copied().tells(t, lines+end, 0, w.steps+1+steps)
				}
			}
		}
	}
}

func TestWhatWasStoredIsACopy(t *testing.T) { // P18.1
	b := usual(t)
	b.tells(t, "mov r6, r10; st8 [r10-8], r6; add r6, -32; st8 [r6+0], 5; ld8 r7, [r10-8]; ld8 r0, [r7-32]; exit", 5, 7)
	b.tells(t, "mov r6, 4; st8 [r10-8], r6; mov r6, 5; ld8 r0, [r10-8]; exit", 4, 5)
	b.tells(t, "mov r6, r1; add r6, 16; st8 [r10-8], r6; sub r6, 16; ld8 r7, [r10-8]; ld8 r0, [r7+0]; exit", 42, 7)
	b.tells(t, "mov r6, r1; mov r7, r6; add r7, 24; ld8 r0, [r6+16]; ld8 r1, [r7+0]; add r0, r1; exit", 85, 7)
}

func TestEachRunHasAStackOfItsOwn(t *testing.T) { // P18.1
	b := usual(t)
	var l []string
	for off := -64; off < 0; off += 8 {
		l = append(l, "st8 "+at("r10", off)+", 1")
	}
	b.tells(t, strings.Join(slices.Concat(l, []string{"mov r0, 0; exit"}), "; "), 0, 10)
	for off := -64; off < 0; off += 8 {
		b.traps(t, "ld8 r0, "+at("r10", off)+"; exit", api.TrapRead, 1)
	}
	for reg := range 10 {
		if reg != 1 {
			b.traps(t, "mov r0, r"+strconv.Itoa(reg)+"; exit", api.TrapRead, 1)
		}
	}
	b.traps(t, "mov r0, r1; exit", api.TrapType, 2)
	b.traps(t, "mov r0, r10; exit", api.TrapType, 2)
}
