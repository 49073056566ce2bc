package vm

import (
	"math"
	"strconv"
	"strings"
	"testing"

	"halberd/api"
	"halberd/hooks"
	"halberd/samples"
)

func TestEachWordOfEachContext(t *testing.T) { // P18.1
	b := usual(t)
	for _, c := range samples.AllContexts() {
		b.c = c
		for i, letter := range samples.Shapes()[c.Hook] {
			load := "ld8 r6, " + at("r1", 8*i) + "; "
			switch {
			case letter == '-':
				b.traps(t, load+"exit", api.TrapAccess, 1)
			case letter == 'n' || c.Words[i] == 0:
				b.tells(t, load+"mov r0, r6; exit", c.Words[i], 3)
				b.traps(t, load+"ld8 r0, [r6+0]; exit", api.TrapType, 2)
			default:
				o := c.Objs[c.Words[i]-1]
				for k, x := range o.F {
					b.tells(t, load+"ld8 r0, "+at("r6", 8*k)+"; exit", x, 3)
				}
				b.traps(t, load+"mov r0, r6; exit", api.TrapType, 3)
			}
		}
	}
}

func TestPlacesThatAreNoWords(t *testing.T) { // P18.1
	b := usual(t)
	for _, c := range samples.AllContexts() {
		b.c = c
		words := len(strings.TrimRight(samples.Shapes()[c.Hook], "-"))
		for off := -20; off <= 80; off++ {
			for _, n := range sizes() {
				if n == 8 && off%8 == 0 && off >= 0 && off < 8*words {
					continue
				}
				b.traps(t, sized("ld", n)+" r0, "+at("r1", off)+"; exit", api.TrapAccess, 1)
			}
		}
	}
	for _, off := range []int{256, 2048, 2064, 32760, -32768, -8} {
		b.traps(t, "ld8 r0, "+at("r1", off)+"; exit", api.TrapAccess, 1)
	}
	b.c = samples.Contexts(api.HookCreate)[0]
	b.tells(t, "add r1, 20; ld8 r0, [r1-4]; exit", 42, 3)
	b.tells(t, "add r1, 24; ld8 r0, [r1+0]; exit", 43, 3)
	b.traps(t, "add r1, 20; ld8 r0, [r1+0]; exit", api.TrapAccess, 2)
	b.traps(t, "sub r1, 8; ld8 r0, [r1+0]; exit", api.TrapAccess, 2)
}

func TestNumbersOfAContextMayBeAny(t *testing.T) { // P18.1
	seed := uint64(1)
	b := usual(t)
	for range 200 {
		x, y := samples.Number(&seed), samples.Number(&seed)
		b.c.Words[2], b.c.Words[3] = x, y
		b.tells(t, "ld8 r0, [r1+16]; exit", x, 2)
		b.tells(t, "ld8 r0, [r1+24]; exit", y, 2)
	}
}

func TestObjectsByTheirPlaces(t *testing.T) { // P18.1
	b := usual(t)
	b.c = api.Context{Hook: api.HookRename, Words: [8]uint64{2, 3, 1, 3, 0}, Objs: []api.Obj{samples.Inode(5), samples.Task(1), samples.Inode(6), samples.Inode(7)}}
	for i, place := range []int{1, 2, 0, 2} {
		b.tells(t, "ld8 r6, "+at("r1", 8*i)+"; ld8 r0, [r6+8]; exit", b.c.Objs[place].F[1], 3)
		b.tells(t, "ld8 r6, "+at("r1", 8*i)+"; ld1 r0, [r6+7]; exit", b.c.Objs[place].F[0]>>56, 3)
	}
	b.tells(t, "ld8 r0, [r1+32]; exit", 0, 2)
}

func TestEachFieldOfAnObject(t *testing.T) { // P18.1
	seed := uint64(2)
	b := usual(t)
	b.c.Objs = []api.Obj{samples.Task(1), samples.Inode(2)}
	for word, names := range []string{"pid ppid uid gid exe gen tracer files", "ino kind mode uid gid links size gen"} {
		for i, name := range strings.Fields(names) {
			for range 20 {
				x := samples.Number(&seed)
				b.c.Objs[word].F[i] = x
				field, _ := hooks.Field(word+1, name)
				for _, n := range sizes() {
					b.tells(t, "ld8 r6, "+at("r1", 8*word)+"; "+sized("ld", n)+" r0, "+at("r6", field)+"; exit", low(x, n), 3)
				}
			}
		}
	}
}

// edges runs loads and stores of all sizes about a pointer's bytes, of which there are so many; readOnly, if none of them is to be written.
func (b *bench) edges(t *testing.T, w way, size int, readOnly bool) {
	t.Helper()
	end, steps := ended(w)
	for off := -10; off <= size+10; off++ {
		for _, n := range sizes() {
			there := off >= 0 && off+n <= size
			load := w.lines + "; " + sized("ld", n) + " r0, " + at("r6", off) + "; "
			store := w.lines + "; mov r0, 7; " + sized("st", n) + " " + at("r6", off) + ", -2; "
			stored := store + sized("ld", n) + " r8, " + at("r6", off) + "; st8 [r10-56], r8; "
			if there {
				b.copied().tells(t, load+end, 0, w.steps+1+steps)
			} else {
				b.copied().traps(t, load+"exit", api.TrapAccess, w.steps+1)
			}
			if there && !readOnly {
				b.copied().tells(t, stored+end, 0, w.steps+4+steps)
				b.copied().tells(t, stored+strings.TrimSuffix(end, "exit")+"ld8 r0, [r10-56]; exit", low(1<<64-2, n), w.steps+5+steps)
			} else {
				b.copied().traps(t, store+"exit", api.TrapAccess, w.steps+2)
			}
		}
	}
}

func TestTheEdgesOfWhatIsPointedTo(t *testing.T) { // P18.1
	b := usual(t)
	bytes := map[string]int{"a task": 64, "an inode": 64, "an array's slot": 8, "a hash's slot": 4, "an inode's slot": 12, "a record": 16}
	for _, w := range pointers() {
		if size, ok := bytes[w.name]; ok {
			b.edges(t, w, size, size == 64)
		}
	}
	b = benchOf(t, tasks)
	b.edges(t, way{"a task's slot", "mov r7, r1; ld8 r2, [r1+0]; map r1, 0; mov r3, 1; call 5; mov r6, r0; mov r1, r7", 7}, 8, false)
}

func TestRecordsOfEachSize(t *testing.T) { // P18.1
	b := usual(t)
	for n := 1; n <= 32; n++ {
		one := way{"a record", "mov r7, r1; map r1, 3; mov r2, " + strconv.Itoa(n) + "; call 8; mov r6, r0; mov r1, r7", 6}
		b.edges(t, one, n, false)
	}
}

func TestWhatIsFarOffIsNotThere(t *testing.T) { // P18.1
	b := usual(t)
	for _, w := range pointers() {
		for _, far := range []uint64{1 << 8, 1 << 16, 1 << 31, 1 << 32, 1<<32 + 8, 1<<63 - 1, 1 << 63, 1<<63 + 8, 1<<64 - 1<<32, 1<<64 - 1<<16 - 256} {
			for _, off := range []string{"+0", "-8", "+8", "+32767", "-32768"} {
				moved := w.lines + "; lddw r8, " + strconv.FormatInt(int64(far), 10) + "; add r6, r8; "
				b.copied().traps(t, moved+"ld8 r0, [r6"+off+"]; exit", api.TrapAccess, w.steps+3)
				b.copied().traps(t, moved+"st1 [r6"+off+"], 1; exit", api.TrapAccess, w.steps+3)
			}
		}
	}
}

func TestLoadsAndStoresOfNoPointers(t *testing.T) { // P18.1
	b := usual(t)
	for _, n := range sizes() {
		ld, st := sized("ld", n), sized("st", n)
		b.traps(t, ld+" r0, [r2+0]; exit", api.TrapRead, 1)
		b.traps(t, ld+" r2, [r2+0]; exit", api.TrapRead, 1)
		b.traps(t, "mov r2, 0; "+ld+" r0, [r2+0]; exit", api.TrapType, 2)
		b.traps(t, "mov r2, -8; "+ld+" r0, [r2+0]; exit", api.TrapType, 2)
		b.traps(t, "map r2, 0; "+ld+" r0, [r2+0]; exit", api.TrapType, 2)
		b.traps(t, st+" [r2+0], 1; exit", api.TrapRead, 1)
		b.traps(t, "mov r2, 0; "+st+" [r2+0], 1; exit", api.TrapType, 2)
		b.traps(t, "map r2, 0; "+st+" [r2+0], 1; exit", api.TrapType, 2)
		b.traps(t, "map r2, 0; "+st+" [r2+0], r1; exit", api.TrapType, 2)
		b.traps(t, st+" [r10-8], r2; exit", api.TrapRead, 1)
		// What is wrong with Dst comes first.
		b.traps(t, st+" [r2+0], r3; exit", api.TrapRead, 1)
		b.traps(t, "mov r2, 0; "+st+" [r2+0], r3; exit", api.TrapType, 2)
		b.traps(t, "map r2, 0; "+st+" [r2+0], r3; exit", api.TrapType, 2)
		b.traps(t, "mov r3, 1; "+st+" [r2+0], r3; exit", api.TrapRead, 2)
		b.traps(t, st+" [r2+0], r1; exit", api.TrapRead, 1)
	}
}

func TestStoresWithoutAValue(t *testing.T) { // P18.1
	b := usual(t)
	for _, w := range pointers() {
		for _, n := range sizes() {
			// Whether the bytes are there or not, and may be written or not, is behind that.
			for _, off := range []string{"-8", "+0", "+4096"} {
				b.copied().traps(t, w.lines+"; "+sized("st", n)+" [r6"+off+"], r9; exit", api.TrapRead, w.steps+1)
			}
		}
	}
}

func TestStoresOfPointersToBytes(t *testing.T) { // P18.1
	b := usual(t)
	traps := map[string]int{"a task": api.TrapAccess, "an inode": api.TrapAccess, "the context": api.TrapAccess, "an array's slot": api.TrapType, "a hash's slot": api.TrapType, "an inode's slot": api.TrapType, "a record": api.TrapType}
	for _, w := range pointers() {
		if w.name == "the stack" {
			continue
		}
		for _, n := range sizes() {
			for _, off := range []string{"-8", "+0", "+8", "+1", "+4096"} {
				for _, v := range []string{"mov r8, r10", "mov r8, r6", "map r8, 1", "mov r8, r1"} {
					b.copied().traps(t, w.lines+"; "+v+"; "+sized("st", n)+" [r6"+off+"], r8; exit", traps[w.name], w.steps+2)
				}
			}
		}
	}
}

func TestStoresToWhatIsOnlyRead(t *testing.T) { // P18.1, P18.2
	b := usual(t)
	for _, c := range samples.AllContexts() {
		b.c = c
		for _, n := range sizes() {
			for _, off := range []int{-1, 0, 1, 8, 16, 56, 63, 64} {
				st := sized("st", n) + " " + at("r6", off)
				for _, get := range []string{"mov r6, r1", "ld8 r6, [r1+0]"} {
					b.traps(t, get+"; "+st+", 1; exit", api.TrapAccess, 2)
					b.traps(t, get+"; "+st+", r10; exit", api.TrapAccess, 2)
					b.traps(t, get+"; mov r2, 0; "+st+", r2; exit", api.TrapAccess, 3)
				}
			}
		}
	}
}

func TestRecordsThatAreNotHeldAnyMore(t *testing.T) { // P18.1, P18.2
	b := usual(t)
	for _, end := range []string{"call 9", "call 10"} {
		gone := "map r1, 3; mov r2, 8; call 8; mov r6, r0; st8 [r0+0], 3; mov r1, r0; " + end + "; "
		b.copied().traps(t, gone+"ld8 r0, [r6+0]; exit", api.TrapAccess, 8)
		b.copied().traps(t, gone+"st8 [r6+0], 1; exit", api.TrapAccess, 8)
		b.copied().traps(t, gone+"st1 [r6+7], 1; exit", api.TrapAccess, 8)
		b.copied().traps(t, gone+"mov r1, r6; call 9; exit", api.TrapCall, 9)
		b.copied().traps(t, gone+"mov r1, r6; call 10; exit", api.TrapCall, 9)
		b.copied().tells(t, gone+"jeq r6, 0, +1; mov r0, 4; exit", 4, 10)
		// The next record is another one.
		b.copied().tells(t, gone+"map r1, 3; mov r2, 8; call 8; st8 [r0+0], 5; mov r1, r0; call 9; exit", 0, 14)
		b.copied().traps(t, gone+"map r1, 3; mov r2, 8; call 8; mov r1, r6; call 9; exit", api.TrapCall, 12)
		b.copied().traps(t, gone+"map r1, 3; mov r2, 8; call 8; ld8 r0, [r6+0]; exit", api.TrapAccess, 11)
	}
}

func TestSlotsKeepWhatIsStored(t *testing.T) { // P18.1
	seed := uint64(3)
	b := usual(t)
	to := func(w way, size int) {
		t.Helper()
		for range 100 {
			n := sizes()[samples.Below(&seed, 4)]
			if n > size {
				continue
			}
			off, x := samples.Below(&seed, size-n+1), samples.Number(&seed)
			l := append(code(t, w.lines), wide(8, x)...)
			l = append(l, code(t, sized("st", n)+" "+at("r6", off)+", r8; mov r0, 1; exit")...)
			if got := b.run(t, l); got != (api.Result{Ret: 1, Steps: w.steps + 4}) {
				t.Fatalf("%s: %+v", textOf(l), got)
			}
			b.tells(t, w.lines+"; "+sized("ld", n)+" r0, "+at("r6", off)+"; exit", low(x, n), w.steps+2)
		}
	}
	for _, w := range pointers() {
		switch w.name {
		case "an array's slot":
			to(w, 8)
		case "an inode's slot":
			to(w, 12)
		}
	}
	// The hash's slot is told by lookup alone, as update would write over it.
	b.tells(t, "st4 [r10-4], 9; map r1, 1; mov r2, r10; add r2, -4; mov r3, r2; mov r4, 0; call 2; exit", 0, 8)
	to(way{"a hash's slot", "st4 [r10-4], 9; mov r7, r1; map r1, 1; mov r2, r10; add r2, -4; call 1; mov r6, r0", 7}, 4)
}

func TestOneMapsSlotsAreNoOthers(t *testing.T) { // P18.1
	b := benchOf(t, anArray, anArray, tasks, tasks)
	slot := func(m, k int) string {
		return "st4 [r10-4], " + strconv.Itoa(k) + "; map r1, " + strconv.Itoa(m) + "; mov r2, r10; add r2, -4; call 1; "
	}
	for m := range 2 {
		for k := range 2 {
			b.tells(t, slot(m, k)+"st8 [r0+0], "+strconv.Itoa(10*m+k+1)+"; mov r0, 0; exit", 0, 8)
		}
	}
	for m := range 2 {
		b.tells(t, "ld8 r2, [r1+0]; map r1, "+strconv.Itoa(m+2)+"; mov r3, 1; call 5; st8 [r0+0], "+strconv.Itoa(10*m+21)+"; mov r0, 0; exit", 0, 7)
	}
	for m := range 2 {
		for k := range 2 {
			b.tells(t, slot(m, k)+"ld8 r0, [r0+0]; exit", uint64(10*m+k+1), 7)
		}
		b.tells(t, "ld8 r2, [r1+0]; map r1, "+strconv.Itoa(m+2)+"; mov r3, 0; call 5; ld8 r0, [r0+0]; exit", uint64(10*m+21), 6)
	}
}

func TestASlotIsItsNumber(t *testing.T) { // P18.1
	b := benchOf(t, aHash, tasks)
	b.c = samples.Contexts(api.HookKill)[0]
	// Slots of a hash are told, free or not.
	b.tells(t, "st4 [r10-4], 9; map r1, 0; mov r2, r10; add r2, -4; mov r3, r2; mov r4, 0; call 2; map r1, 0; mov r2, r10; add r2, -4; call 1; mov r6, r0; map r1, 0; mov r2, r10; add r2, -4; call 3; ld4 r0, [r6+0]; exit", 9, 18)
	// Those of a storage move up: the pointer doesn't.
	two := "mov r9, r1; ld8 r2, [r9+0]; map r1, 1; mov r3, 1; call 5; st8 [r0+0], 10; mov r6, r0; ld8 r2, [r9+8]; map r1, 1; mov r3, 1; call 5; st8 [r0+0], 11; mov r7, r0; "
	b.copied().tells(t, two+"ld8 r0, [r6+0]; ld8 r1, [r7+0]; mul r1, 256; add r0, r1; exit", 11*256+10, 18)
	b.copied().tells(t, two+"ld8 r2, [r9+0]; map r1, 1; call 7; ld8 r0, [r6+0]; ld8 r1, [r7+0]; mul r1, 256; add r0, r1; exit", 11, 21)
	b.copied().tells(t, two+"ld8 r2, [r9+8]; map r1, 1; call 7; ld8 r0, [r6+0]; ld8 r1, [r7+0]; mul r1, 256; add r0, r1; exit", 10, 21)
}

func TestTimesOfContexts(t *testing.T) { // P18.1
	b := usual(t)
	for _, now := range []uint64{0, 1, 7, 1 << 32, 1 << 63, math.MaxUint64} {
		b.c.Now = now
		b.tells(t, "call 11; exit", now, 2)
		b.tells(t, "mov r1, 5; mov r5, r10; call 11; mov r6, r0; mov r0, r6; exit", now, 6)
	}
}
