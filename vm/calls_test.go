package vm

import (
	"math"
	"slices"
	"strconv"
	"strings"
	"testing"

	"halberd/api"
	"halberd/owned"
	"halberd/ring"
	"halberd/samples"
)

func TestLookupOfAnArray(t *testing.T) { // P18.1
	b := usual(t)
	b.o.Update(0, []byte{1, 0, 0, 0}, []byte{1, 2, 3, 4, 5, 6, 7, 8}, 0)
	find := func(k string) string {
		return "st4 [r10-64], " + k + "; map r1, 0; mov r2, r10; add r2, -64; call 1; "
	}
	b.tells(t, find("1")+"ld8 r0, [r0+0]; exit", 0x0807060504030201, 7)
	b.tells(t, find("0")+"ld8 r0, [r0+0]; exit", 0, 7)
	for _, k := range []string{"2", "3", "16", "256", "65536", "-1", "-2147483648"} {
		b.tells(t, find(k)+"exit", 0, 6)
	}
	b.tells(t, find("1")+"add r0, 6; ld1 r0, [r0+1]; exit", 8, 8)
	b.tells(t, "st1 [r10-4], 1; st1 [r10-3], 0; st2 [r10-2], 0; map r1, 0; mov r2, r10; add r2, -4; call 1; ld1 r0, [r0+0]; exit", 1, 9)
}

func TestHashesAreFilledAskedAndEmptied(t *testing.T) { // P18.1
	b := usual(t)
	put := func(key, value, flags string) string {
		return "st2 [r10-8], " + key + "; st4 [r10-4], " + value + "; map r1, 1; mov r2, r10; add r2, -8; mov r3, r10; add r3, -4; mov r4, " + flags + "; call 2; exit"
	}
	find := func(key string) string {
		return "st2 [r10-8], " + key + "; map r1, 1; mov r2, r10; add r2, -8; call 1; "
	}
	drop := func(key string) string {
		return "st2 [r10-8], " + key + "; map r1, 1; mov r2, r10; add r2, -8; call 3; exit"
	}
	less := func(e api.Errno) uint64 { return math.MaxUint64 - uint64(e) + 1 }
	b.tells(t, put("5", "7", "2"), less(api.ENOENT), 10)
	b.tells(t, put("5", "7", "1"), 0, 10)
	b.tells(t, put("5", "8", "1"), less(api.EEXIST), 10)
	b.tells(t, find("5")+"ld4 r0, [r0+0]; exit", 7, 7)
	b.tells(t, put("5", "9", "2"), 0, 10)
	b.tells(t, find("5")+"ld4 r0, [r0+0]; exit", 9, 7)
	b.tells(t, put("6", "3", "0"), 0, 10)
	b.tells(t, put("7", "3", "0"), less(api.ENOSPC), 10)
	b.tells(t, put("5", "3", "3"), less(api.EINVAL), 10)
	b.tells(t, put("5", "3", "-1"), less(api.EINVAL), 10)
	b.tells(t, find("7")+"exit", 0, 6)
	b.tells(t, drop("7"), less(api.ENOENT), 6)
	b.tells(t, drop("5"), 0, 6)
	b.tells(t, drop("5"), less(api.ENOENT), 6)
	b.tells(t, find("5")+"exit", 0, 6)
	b.tells(t, find("6")+"ld4 r0, [r0+0]; exit", 3, 7)
	if want := "\x01" + strings.Repeat("\x00", 16) + "\x02\x01\x06\x00\x09\x00\x00\x00\x03\x00\x00\x00\x03" + strings.Repeat("\x00", 12) + "\x05"; string(b.o.Bytes()) != want {
		t.Errorf("left: %q", b.o.Bytes())
	}
}

func TestUpdateOfAnArray(t *testing.T) { // P18.1
	b := usual(t)
	put := func(key, flags string) string {
		return "st4 [r10-12], " + key + "; st8 [r10-8], 258; map r1, 0; mov r2, r10; add r2, -12; mov r3, r10; add r3, -8; lddw r4, " + flags + "; call 2; exit"
	}
	minus := func(e api.Errno) uint64 { return uint64(-int64(e)) }
	b.tells(t, put("1", "0"), 0, 10)
	b.tells(t, put("1", "2"), 0, 10)
	b.tells(t, put("1", "1"), minus(api.EEXIST), 10)
	b.tells(t, put("2", "0"), minus(api.EINVAL), 10)
	b.tells(t, put("1", "4294967296"), minus(api.EINVAL), 10)
	b.tells(t, put("1", "-9223372036854775808"), minus(api.EINVAL), 10)
	if x, _ := b.o.Slot(0, 1); !slices.Equal(x, []byte{2, 1, 0, 0, 0, 0, 0, 0}) {
		t.Errorf("slot 1: %v", x)
	}
	if x, _ := b.o.Slot(0, 0); !slices.Equal(x, make([]byte, 8)) {
		t.Errorf("slot 0: %v", x)
	}
}

func TestStoragesOfInodesAndTasks(t *testing.T) { // P18.1
	for _, k := range []struct {
		def       api.MapDef
		get, drop string
		word      int
	}{{api.MapDef{Kind: api.MapInode, Value: 8, Max: 1}, "call 4", "call 6", 8}, {api.MapDef{Kind: api.MapTask, Value: 8, Max: 1}, "call 5", "call 7", 0}} {
		b := benchOf(t, audits, k.def)
		load := "ld8 r2, " + at("r1", k.word) + "; map r1, 1; "
		get := func(create string) string { return load + "lddw r3, " + create + "; " + k.get + "; " }
		b.tells(t, get("0")+"exit", 0, 5)
		b.tells(t, load+k.drop+"; exit", 1<<64-2, 4)
		for _, create := range []string{"1", "2", "-1", "4294967296", "-9223372036854775808"} {
			c := b.copied()
			c.tells(t, get(create)+"st8 [r0+0], 77; ld8 r0, [r0+0]; exit", 77, 7)
			c.tells(t, get("0")+"ld8 r0, [r0+0]; exit", 77, 6)
		}
		b.tells(t, get("1")+"st8 [r0+0], 5; mov r0, 0; exit", 0, 7)
		// An object of another number, or generation, isn't this one; and there is no room for it.
		was := b.c
		for _, key := range []api.Key{{Id: 10 + k.word/8, Gen: 5}, {Id: 3, Gen: 110 + k.word/8}, {}} {
			b.c.Objs = slices.Clone(was.Objs)
			b.c.Objs[k.word/8].Key = key
			b.tells(t, get("0")+"exit", 0, 5)
			b.tells(t, get("1")+"exit", 0, 5)
			b.tells(t, load+k.drop+"; exit", 1<<64-2, 4)
		}
		b.c = was
		b.tells(t, get("1")+"ld8 r0, [r0+0]; exit", 5, 6)
		b.tells(t, load+k.drop+"; exit", 0, 4)
		b.tells(t, load+k.drop+"; exit", 1<<64-2, 4)
		b.tells(t, get("1")+"ld8 r0, [r0+0]; exit", 0, 6)
	}
}

func TestStoragesGoByKeys(t *testing.T) { // P18.1
	b := benchOf(t, tasks)
	b.c = samples.Contexts(api.HookKill)[0]
	b.c.Objs[1].Key = b.c.Objs[0].Key
	b.tells(t, "mov r9, r1; ld8 r2, [r9+0]; map r1, 0; mov r3, 1; call 5; st8 [r0+0], 6; ld8 r2, [r9+8]; map r1, 0; mov r3, 0; call 5; ld8 r0, [r0+0]; exit", 6, 12)
}

func TestRecordsAreToldAndThrownAway(t *testing.T) { // P18.1, P18.2
	b := usual(t)
	b.tells(t, "map r1, 3; mov r2, 3; call 8; mov r6, r0; st2 [r6+1], 513; mov r1, r6; call 9; exit", 0, 8)
	b.tells(t, "map r1, 3; mov r2, 2; call 8; mov r6, r0; st2 [r6+0], 513; mov r1, r6; call 10; exit", 0, 8)
	b.owner = 6
	b.tells(t, "map r1, 3; mov r2, 1; call 8; mov r7, r0; map r1, 3; mov r2, 2; call 8; st1 [r7+0], 8; st1 [r0+1], 9; mov r1, r0; call 9; mov r1, r7; call 9; exit", 0, 14)
	if want := "\x00\x05\x01\x03\x00\x01\x02" + "\x01\x05\x02\x02\x01\x02" + "\x02\x06\x01\x01\x08" + "\x03\x06\x01\x02\x00\x09"; string(b.r.Bytes()) != want {
		t.Errorf("left: %q", b.r.Bytes())
	}
	l := b.r.Drain()
	if len(l) != 3 || l[0].Owner != 5 || string(l[0].Data) != "\x00\x01\x02" || l[1].Owner != 6 || string(l[2].Data) != "\x00\x09" {
		t.Errorf("drained: %v", l)
	}
}

func TestOwnersOfRecords(t *testing.T) { // P18.1
	for _, owner := range samples.Ends() {
		b := usual(t)
		b.owner = owner
		b.tells(t, "map r1, 3; mov r2, 4; call 8; mov r1, r0; call 9; exit", 0, 6)
		if l := b.r.Drain(); len(l) != 1 || l[0].Owner != owner {
			t.Errorf("owner %d: %v", owner, l)
		}
	}
}

func TestAFullRing(t *testing.T) { // P18.1
	for room := 1; room <= 60; room++ {
		b := usual(t)
		b.r, _ = ring.New(room)
		for n := 1; n <= 32; n++ {
			c := b.copied()
			lines := "map r1, 3; mov r2, " + strconv.Itoa(n) + "; call 8; jne r0, 0, +2; mov r0, 5; exit; mov r1, r0; call 9; exit"
			if n+8 <= room {
				c.tells(t, lines, 0, 7)
			} else {
				c.tells(t, lines, 5, 6)
			}
			if drops := c.r.Drops(); drops != map[bool]int{true: 0, false: 1}[n+8 <= room] {
				t.Errorf("%d bytes of %d: %d drops", n, room, drops)
			}
		}
	}
}

func TestPathsAndTheirBuffers(t *testing.T) { // P18.1
	b := usual(t)
	b.c.Objs[1].Path = "/abc/defg"
	ask := func(off, n int) string {
		return "ld8 r1, [r1+8]; mov r2, r10; add r2, " + strconv.Itoa(off) + "; mov r3, " + strconv.Itoa(n) + "; call 12; "
	}
	b.tells(t, ask(-16, 4)+"exit", 4, 6)
	b.tells(t, ask(-16, 4)+"ld4 r0, [r10-16]; exit", 'c'<<24|'b'<<16|'a'<<8|'/', 7)
	b.tells(t, ask(-16, 16)+"exit", 9, 6)
	b.tells(t, ask(-16, 16)+"ld1 r0, [r10-8]; exit", 'g', 7)
	b.tells(t, ask(-16, 16)+"ld4 r0, [r10-7]; exit", 0, 7)
	b.tells(t, ask(-16, 9)+"exit", 9, 6)
	b.traps(t, ask(-16, 9)+"ld2 r0, [r10-8]; exit", api.TrapRead, 6)
	b.traps(t, ask(-16, 9)+"ld1 r0, [r10-17]; exit", api.TrapRead, 6)
	b.tells(t, "st8 [r10-8], -1; "+ask(-6, 3)+"ld8 r0, [r10-8]; exit", 0xFFFFFF<<40|'b'<<32|'a'<<24|'/'<<16|0xFFFF, 8)
	b.c.Objs[1].Path = ""
	b.tells(t, ask(-16, 5)+"exit", 0, 6)
	b.tells(t, ask(-16, 5)+"ld4 r0, [r10-15]; exit", 0, 7)
	b.c.Objs[1].Path = strings.Repeat("\xff", 80)
	b.tells(t, ask(-64, 32)+"exit", 32, 6)
	b.tells(t, ask(-32, 32)+"ld8 r0, [r10-8]; exit", math.MaxUint64, 7)
	b.traps(t, ask(-64, 32)+"ld1 r0, [r10-32]; exit", api.TrapRead, 6)
}

func TestBuffersOfEachLengthAndPlace(t *testing.T) { // P18.1
	b := usual(t)
	for _, n := range []int{1, 2, 7, 8, 9, 16, 31, 32} {
		for off := -70; off <= 4; off++ {
			lines := "ld8 r1, [r1+8]; mov r2, r10; add r2, " + strconv.Itoa(off) + "; mov r3, " + strconv.Itoa(n) + "; call 12; "
			if off < -64 || off+n > 0 {
				b.traps(t, lines+"exit", api.TrapCall, 5)
				continue
			}
			b.tells(t, lines+"exit", uint64(min(n, 7)), 6)
			for other := max(-64, off-9); other < min(0, off+n+9); other++ {
				load := lines + "ld1 r0, " + at("r10", other) + "; exit"
				if k := other - off; k >= 0 && k < n {
					b.tells(t, load, uint64(append([]byte("/dir/11"), make([]byte, 32)...)[k]), 7)
				} else {
					b.traps(t, load, api.TrapRead, 6)
				}
			}
		}
	}
}

func TestBuffersOverPointers(t *testing.T) { // P18.1
	b := usual(t)
	kept := "st8 [r10-24], r1; st8 [r10-16], r1; st8 [r10-8], r1; ld8 r1, [r1+8]; mov r2, r10; "
	b.tells(t, kept+"add r2, -16; mov r3, 8; call 12; ld8 r2, [r10-24]; ld8 r3, [r10-8]; ld8 r0, [r2+16]; ld8 r1, [r3+24]; add r0, r1; exit", 85, 14)
	b.tells(t, kept+"add r2, -16; mov r3, 8; call 12; ld2 r0, [r10-16]; exit", 'd'<<8|'/', 10)
	b.traps(t, kept+"add r2, -16; mov r3, 3; call 12; ld1 r0, [r10-13]; exit", api.TrapRead, 9)
	b.traps(t, kept+"add r2, -17; mov r3, 2; call 12; ld1 r0, [r10-18]; exit", api.TrapRead, 9)
	b.traps(t, kept+"add r2, -17; mov r3, 2; call 12; ld1 r0, [r10-15]; exit", api.TrapRead, 9)
	b.traps(t, kept+"add r2, -17; mov r3, 2; call 12; ld8 r0, [r10-16]; exit", api.TrapRead, 9)
	b.tells(t, kept+"add r2, -17; mov r3, 2; call 12; ld2 r0, [r10-17]; exit", 'd'<<8|'/', 10)
	b.traps(t, kept+"add r2, -17; mov r3, 2; call 12; ld8 r0, [r10-8]; exit", api.TrapType, 10)
	b.traps(t, kept+"add r2, -20; mov r3, 20; call 12; ld4 r0, [r10-24]; exit", api.TrapRead, 9)
}

func TestInside(t *testing.T) { // P18.1
	b := usual(t)
	b.c.Objs[0].Up = []int{9, 4, 1, -1, math.MinInt}
	for pid, want := range map[string]uint64{"9": 1, "4": 1, "1": 1, "0": 0, "2": 0, "-1": 0, "4294967297": 0, "-9223372036854775808": 0} {
		b.tells(t, "ld8 r1, [r1+0]; lddw r2, "+pid+"; call 13; exit", want, 4)
	}
	b.c.Objs[0].Up = nil
	b.tells(t, "ld8 r1, [r1+0]; mov r2, 0; call 13; exit", 0, 4)
	b.c = samples.Contexts(api.HookKill)[0]
	for word, pids := range [][]string{{"10", "13"}, {"13", "10"}} {
		b.tells(t, "ld8 r1, "+at("r1", 8*word)+"; mov r2, "+pids[0]+"; call 13; exit", 1, 4)
		b.tells(t, "ld8 r1, "+at("r1", 8*word)+"; mov r2, "+pids[1]+"; call 13; exit", 0, 4)
	}
}

// suiting has lines that bring arguments that suit into registers, for each helper; for benches with an array, a hash and a storage of a kind, or with a ring.
func suiting() map[int]string {
	array := "st8 [r10-16], 1; st8 [r10-8], 5; map r1, 0; mov r2, r10; add r2, -16; "
	hash := "st8 [r10-16], 1; st8 [r10-8], 5; map r1, 1; mov r2, r10; add r2, -16; "
	return map[int]string{
		1:  array,
		2:  array + "mov r3, r10; add r3, -8; mov r4, 0; ",
		3:  hash,
		4:  "ld8 r2, [r1+8]; map r1, 2; mov r3, 1; ",
		5:  "ld8 r2, [r1+0]; map r1, 3; mov r3, 1; ",
		6:  "ld8 r2, [r1+8]; map r1, 2; ",
		7:  "ld8 r2, [r1+0]; map r1, 3; ",
		8:  "map r1, 3; mov r2, 8; ",
		9:  "map r1, 3; mov r2, 8; call 8; mov r1, r0; ",
		10: "map r1, 3; mov r2, 8; call 8; mov r1, r0; ",
		11: "",
		12: "ld8 r1, [r1+8]; mov r2, r10; add r2, -32; mov r3, 32; ",
		13: "ld8 r1, [r1+0]; mov r2, 10; ",
	}
}

// benchFor has the maps that suiting wants.
func benchFor(t *testing.T, n int) *bench {
	t.Helper()
	last := audits
	if n == 5 || n == 7 {
		last = tasks
	}
	return benchOf(t, anArray, aHash, inodes, last)
}

func TestRegistersBehindACall(t *testing.T) { // P18.1
	for n, lines := range suiting() {
		b := benchFor(t, n)
		// The other registers keep what they have.
		pre := "mov r6, 6; mov r7, 7; mov r8, 8; mov r9, 9; mov r4, 4; mov r5, 5; "
		if n == 11 {
			pre += "mov r2, 2; mov r3, 3; "
		}
		call := pre + lines + "call " + strconv.Itoa(n) + "; "
		steps := strings.Count(call, ";")
		for reg := 1; reg <= 5; reg++ {
			b.copied().traps(t, call+"mov r0, r"+strconv.Itoa(reg)+"; exit", api.TrapRead, steps+1)
		}
		if n != 8 {
			b.copied().tells(t, call+"mov r0, r6; add r0, r7; add r0, r8; add r0, r9; exit", 30, steps+5)
		}
		if got := b.copied().run(t, code(t, call+"st8 [r10-40], r10; mov r1, r0; exit")); got.Trap == api.TrapRead || got.Steps != steps+3 {
			t.Errorf("helper %d: %+v", n, got)
		}
	}
}

func TestResultsAreUsed(t *testing.T) { // P18.1
	for n, lines := range suiting() {
		b := benchFor(t, n)
		call := lines + "call " + strconv.Itoa(n) + "; "
		steps := strings.Count(call, ";")
		switch n {
		case 1, 4, 5:
			b.tells(t, call+"st8 [r0+0], 3; ld8 r1, [r0+0]; mov r0, r1; exit", 3, steps+4)
			b.tells(t, call+"jeq r0, 0, +1; ld8 r0, [r0+0]; exit", 3, steps+3)
		case 8:
			b.tells(t, call+"st8 [r0+0], 3; mov r1, r0; call 9; exit", 0, steps+4)
		default:
			want := map[int]uint64{3: 1<<64 - 2, 6: 1<<64 - 2, 7: 1<<64 - 2, 11: 7, 12: 7, 13: 1}[n]
			b.tells(t, call+"add r0, 1; exit", want+1, steps+2)
		}
	}
}

func TestNoSuchHelper(t *testing.T) { // P18.1
	b := usual(t)
	for _, n := range []int32{0, 14, 15, 255, 256 + 11, 1<<16 + 11, math.MaxInt32, -1, -11, math.MinInt32, math.MinInt32 + 11} {
		l := []api.Inst{{Op: api.ClassJmp | api.CallOp, Imm: n}, exit}
		if got := b.run(t, l); got != (api.Result{Trap: api.TrapCall, Steps: 1}) {
			t.Errorf("call %d: %+v", n, got)
		}
	}
	b.traps(t, "mov r0, 1; call 99; exit", api.TrapCall, 2)
}

// wrong has lines that bring into register 8 what doesn't suit an argument of a kind, as far as the usual maps go.
func wrong() map[byte][]string {
	numbers := []string{"mov r8, 0", "mov r8, 1", "mov r8, -8"}
	stacks := []string{"mov r8, r10; add r8, -16"}
	objects := []string{"ld8 r8, [r9+0]", "ld8 r8, [r9+8]"}
	maps := []string{"map r8, 0", "map r8, 1", "map r8, 2", "map r8, 3"}
	context := []string{"mov r8, r9"}
	outside := []string{"mov r8, r10", "mov r8, r10; add r8, -65", "mov r8, r10; add r8, -1", "mov r8, r10; add r8, -48", "mov r8, r10; lddw r7, 4294967280; add r8, r7"}
	// Offsets that would be of the stack, of things that aren't.
	others := []string{"mov r8, -16", "mov r8, -32", "mov r8, r9; add r8, -16", "mov r8, r9; add r8, -32", "ld8 r8, [r9+0]; add r8, -32", "ld8 r8, [r9+8]; add r8, -16"}
	// Offsets that would be numbers.
	offsets := []string{"mov r8, r10; add r8, 8", "mov r8, r9; add r8, 8", "ld8 r8, [r9+0]; add r8, 1"}
	moved := []string{"ld8 r8, [r9+8]; add r8, 8", "ld8 r8, [r9+8]; add r8, -1", "ld8 r8, [r9+0]; sub r8, 8", "ld8 r8, [r9+0]; add r8, 1"}
	return map[byte][]string{
		api.ArgMap:   slices.Concat(numbers, stacks, objects, context),
		api.ArgKey:   slices.Concat(numbers, objects, maps, context, outside, others),
		api.ArgValue: slices.Concat(numbers, objects, maps, context, outside, others),
		api.ArgNum:   slices.Concat(stacks, objects, maps, context, offsets),
		api.ArgInode: slices.Concat(numbers, stacks, objects[:1], maps, context, moved),
		api.ArgTask:  slices.Concat(numbers, stacks, objects[1:], maps, context, moved),
		api.ArgConst: slices.Concat(stacks, objects, maps, context, offsets, []string{"mov r8, 0", "mov r8, 33", "mov r8, -1", "mov r8, 256", "lddw r8, 4294967297", "lddw r8, -9223372036854775807"}),
		api.ArgBuf:   slices.Concat(numbers, objects, maps, context, others, []string{"mov r8, r10", "mov r8, r10; add r8, -31", "mov r8, r10; add r8, -65"}),
		api.ArgRec:   slices.Concat(numbers, stacks, objects, maps, context),
	}
}

// kinds tells each helper's arguments once more.
func kinds() map[int][]byte {
	return map[int][]byte{
		1: {api.ArgMap, api.ArgKey}, 2: {api.ArgMap, api.ArgKey, api.ArgValue, api.ArgNum}, 3: {api.ArgMap, api.ArgKey},
		4: {api.ArgMap, api.ArgInode, api.ArgNum}, 5: {api.ArgMap, api.ArgTask, api.ArgNum}, 6: {api.ArgMap, api.ArgInode}, 7: {api.ArgMap, api.ArgTask},
		8: {api.ArgMap, api.ArgConst}, 9: {api.ArgRec}, 10: {api.ArgRec}, 11: {}, 12: {api.ArgInode, api.ArgBuf, api.ArgConst}, 13: {api.ArgTask, api.ArgNum},
	}
}

func TestArgumentsThatDoNotSuit(t *testing.T) { // P18.1
	for n, args := range kinds() {
		b := benchFor(t, n)
		for i, kind := range args {
			for _, bad := range wrong()[kind] {
				lines := "mov r9, r1; " + bad + "; " + suiting()[n] + "mov r" + strconv.Itoa(i+1) + ", r8; call " + strconv.Itoa(n) + "; mov r0, 0; exit"
				l := code(t, lines)
				got := b.copied().run(t, l)
				if got.Trap != api.TrapCall {
					t.Errorf("helper %d, argument %d: %q: %+v", n, i+1, lines, got)
				}
			}
		}
	}
}

func TestArgumentsWithoutAValue(t *testing.T) { // P18.1
	for n, args := range kinds() {
		b := benchFor(t, n)
		if len(args) > 0 {
			b.traps(t, "mov r9, r1; call 11; call "+strconv.Itoa(n)+"; exit", api.TrapRead, 3)
		}
		// No value can be moved into a register: only a call leaves one without.
		for missing := range args {
			l := code(t, "mov r9, r1; "+suiting()[n])
			steps := len(l) - wides(l) + 1
			l = append(l, without(t, n, missing)...)
			got := b.copied().run(t, append(l, code(t, "call "+strconv.Itoa(n)+"; mov r0, 0; exit")...))
			want := api.TrapRead
			if n == 12 && missing == 2 {
				// The buffer is the first one that doesn't suit, as nothing tells its length.
				want = api.TrapCall
			}
			if got.Trap != want || got.Steps <= steps {
				t.Errorf("helper %d without argument %d: %+v", n, missing+1, got)
			}
		}
	}
}

func wides(l []api.Inst) int {
	n := 0
	for _, i := range l {
		if i.Op == api.LdWide {
			n++
		}
	}
	return n
}

// without tells lines that keep a helper's arguments over a call, behind which one of them hasn't its value again.
func without(t *testing.T, n, missing int) []api.Inst {
	t.Helper()
	args := len(kinds()[n])
	var l []string
	for i := range args {
		l = append(l, "st8 "+at("r10", -64+8*i)+", r"+strconv.Itoa(i+1))
	}
	l = append(l, "call 11")
	for i := range args {
		if i != missing {
			l = append(l, "ld8 r"+strconv.Itoa(i+1)+", "+at("r10", -64+8*i))
		}
	}
	return code(t, strings.Join(l, "; "))
}

func TestArgumentsAreKeptOverACall(t *testing.T) { // P18.1
	// What the test above is built on: with all of them the call is done.
	for n := range kinds() {
		if n == 8 {
			continue
		}
		b := benchFor(t, n)
		l := slices.Concat(code(t, "mov r9, r1; "+strings.TrimSuffix(suiting()[n]+"mov r0, 0; ", "; ")), without(t, n, -1), code(t, "call "+strconv.Itoa(n)+"; mov r0, 0; exit"))
		if got := b.run(t, l); got.Trap != api.TrapNone {
			t.Errorf("helper %d: %+v", n, got)
		}
	}
}

func TestTheFirstArgumentTellsWhy(t *testing.T) { // P18.1
	b := usual(t)
	key := "st8 [r10-8], 1; mov r2, r10; add r2, -8; mov r3, r2; mov r4, 0; "
	b.traps(t, key+"mov r1, 0; call 2; exit", api.TrapCall, 7)
	b.traps(t, key+"map r1, 2; call 2; exit", api.TrapCall, 7)
	// The map, and then nothing.
	b.traps(t, "call 11; map r1, 0; call 1; exit", api.TrapRead, 3)
	b.traps(t, "call 11; map r1, 2; call 1; exit", api.TrapCall, 3)
	b.traps(t, "call 11; mov r1, 0; call 1; exit", api.TrapCall, 3)
	b.traps(t, "call 11; mov r2, 0; call 1; exit", api.TrapRead, 3)
	// The key doesn't suit, the value has none; and the other way round.
	b.traps(t, "map r1, 0; mov r2, 0; call 2; exit", api.TrapCall, 3)
	b.traps(t, "st8 [r10-8], 1; mov r2, r10; add r2, -8; map r1, 0; call 2; exit", api.TrapRead, 5)
	b.traps(t, "st8 [r10-8], 1; mov r2, r10; add r2, -8; mov r3, 0; map r1, 0; call 2; exit", api.TrapCall, 6)
	b.traps(t, "st8 [r10-8], 1; mov r2, r10; add r2, -8; mov r3, r2; map r1, 0; call 2; exit", api.TrapRead, 6)
	b.traps(t, "st8 [r10-8], 1; mov r2, r10; add r2, -8; mov r4, 0; map r1, 0; call 2; exit", api.TrapRead, 6)
	b.traps(t, "mov r2, r1; map r1, 0; mov r4, r10; call 2; exit", api.TrapCall, 4)
	b.traps(t, "ld8 r2, [r1+0]; map r1, 2; call 4; exit", api.TrapCall, 3)
	b.traps(t, "ld8 r2, [r1+8]; map r1, 2; call 4; exit", api.TrapRead, 3)
	b.traps(t, "map r1, 3; call 8; exit", api.TrapRead, 2)
	b.traps(t, "map r1, 0; call 8; exit", api.TrapCall, 2)
	b.traps(t, "call 12; exit", api.TrapCall, 1)
	b.traps(t, "ld8 r1, [r1+8]; call 12; exit", api.TrapRead, 2)
	b.traps(t, "ld8 r1, [r1+0]; call 12; exit", api.TrapCall, 2)
	b.traps(t, "ld8 r1, [r1+0]; call 13; exit", api.TrapRead, 2)
	b.traps(t, "ld8 r1, [r1+8]; call 13; exit", api.TrapCall, 2)
	b.traps(t, "call 13; exit", api.TrapCall, 1)
	b.traps(t, "call 9; exit", api.TrapCall, 1)
	b.traps(t, "mov r9, r1; call 11; call 9; exit", api.TrapRead, 3)
}

func TestMapsOfEachKindForEachHelper(t *testing.T) { // P18.1
	suit := map[int]string{1: "ah", 2: "ah", 3: "h", 4: "i", 5: "t", 6: "i", 7: "t", 8: "r"}
	all := map[byte]api.MapDef{'a': anArray, 'h': aHash, 'i': inodes, 't': tasks, 'r': audits}
	for n, letters := range suit {
		for letter, def := range all {
			b := benchOf(t, def, def)
			lines := "st8 [r10-8], 1; st8 [r10-16], 0; mov r2, r10; add r2, -16; mov r3, r2; mov r4, 0; "
			switch n {
			case 4, 6:
				lines = "ld8 r2, [r1+8]; mov r3, 1; "
			case 5, 7:
				lines = "ld8 r2, [r1+0]; mov r3, 1; "
			case 8:
				lines = "mov r2, 1; "
			}
			got := b.run(t, code(t, lines+"map r1, 1; call "+strconv.Itoa(n)+"; mov r0, 0; exit"))
			want := api.TrapCall
			if strings.IndexByte(letters, letter) >= 0 {
				want = map[bool]int{true: api.TrapLeak, false: api.TrapNone}[n == 8]
			}
			if got.Trap != want {
				t.Errorf("helper %d of map %c: %+v", n, letter, got)
			}
		}
	}
}

func TestKeysAndValuesOnTheStack(t *testing.T) { // P18.1
	for key := 1; key <= 8; key++ {
		for _, value := range []int{1, 2, 7, 8, 9, 31, 32} {
			b := benchOf(t, api.MapDef{Kind: api.MapHash, Key: key, Value: value, Max: 2})
			call := func(keyAt, valueAt int) string {
				return "map r1, 0; mov r2, r10; add r2, " + strconv.Itoa(keyAt) + "; mov r3, r10; add r3, " + strconv.Itoa(valueAt) + "; mov r4, 0; call 2; "
			}
			full := "st8 [r10-64], 1; st8 [r10-56], 2; st8 [r10-48], 3; st8 [r10-40], 4; st8 [r10-32], 5; st8 [r10-24], 6; st8 [r10-16], 7; st8 [r10-8], 8; "
			for _, x := range []struct {
				keyAt, valueAt int
				suit           bool
			}{
				{-64, -64, true}, {-key, -value, true}, {-key + 1, -value, false}, {-key, -value + 1, false}, {-65, -64, false}, {-64, -65, false}, {-33, -40, true}, {0, -64, false}, {-64, 0, false}, {-64, 8, false},
			} {
				if x.suit {
					b.copied().tells(t, full+call(x.keyAt, x.valueAt)+"exit", 0, 16)
				} else {
					b.copied().traps(t, full+call(x.keyAt, x.valueAt)+"exit", api.TrapCall, 15)
				}
			}
			b.holes(t, key, value, call)
		}
	}
}

// holes runs a call whose key, or value, has one byte without a value, or a pointer.
func (b *bench) holes(t *testing.T, key, value int, call func(keyAt, valueAt int) string) {
	t.Helper()
	fill := func(at0, n, hole int) string {
		var l string
		for k := range n {
			if k != hole {
				l += "st1 " + at("r10", at0+k) + ", 1; "
			}
		}
		return l
	}
	steps := key + value + 7
	b.copied().tells(t, fill(-64, key, -1)+fill(-40, value, -1)+call(-64, -40)+"exit", 0, steps+1)
	for hole := range key {
		b.copied().traps(t, fill(-64, key, hole)+fill(-40, value, -1)+call(-64, -40)+"exit", api.TrapCall, steps-1)
	}
	for hole := range value {
		b.copied().traps(t, fill(-64, key, -1)+fill(-40, value, hole)+call(-64, -40)+"exit", api.TrapCall, steps-1)
	}
	b.copied().traps(t, fill(-63, key, -1)+fill(-40, value, -1)+"st8 [r10-64], r10; "+call(-63, -40)+"exit", api.TrapCall, steps+1)
	b.copied().traps(t, fill(-61, key, -1)+fill(-40, value, -1)+"st8 "+at("r10", -64+8*((key+2)/8))+", r10; "+call(-61, -40)+"exit", api.TrapCall, steps+1)
	for off := -40; off < -40+value; off += 8 {
		b.copied().traps(t, fill(-64, key, -1)+fill(-40, value, -1)+"st8 "+at("r10", off)+", r10; "+call(-64, -40)+"exit", api.TrapCall, steps+1)
	}
}

func TestLookupWithHoles(t *testing.T) { // P18.1
	b := usual(t)
	for _, n := range []string{"1", "3"} {
		b.traps(t, "map r1, 1; mov r2, r10; add r2, -2; call "+n+"; exit", api.TrapCall, 4)
		b.traps(t, "st1 [r10-2], 1; map r1, 1; mov r2, r10; add r2, -2; call "+n+"; exit", api.TrapCall, 5)
		b.traps(t, "st1 [r10-1], 1; map r1, 1; mov r2, r10; add r2, -2; call "+n+"; exit", api.TrapCall, 5)
		b.traps(t, "st8 [r10-8], r1; map r1, 1; mov r2, r10; add r2, -2; call "+n+"; exit", api.TrapCall, 5)
		b.traps(t, "st8 [r10-16], r1; st1 [r10-8], 1; map r1, 1; mov r2, r10; add r2, -9; call "+n+"; exit", api.TrapCall, 6)
		b.traps(t, "st8 [r10-8], 1; map r1, 1; mov r2, r10; add r2, -1; call "+n+"; exit", api.TrapCall, 5)
	}
	b.traps(t, "st2 [r10-2], 1; map r1, 0; mov r2, r10; add r2, -4; call 1; exit", api.TrapCall, 5)
}

func TestLengthsOfBuffers(t *testing.T) { // P18.1
	b := usual(t)
	ask := "ld8 r1, [r1+8]; mov r2, r10; add r2, -64; "
	for _, n := range []string{"0", "33", "64", "-1", "256", "4294967297", "4294967328", "-9223372036854775807", "-9223372036854775808"} {
		b.traps(t, ask+"lddw r3, "+n+"; call 12; exit", api.TrapCall, 5)
	}
	b.traps(t, ask+"mov r3, r10; call 12; exit", api.TrapCall, 5)
	b.traps(t, ask+"map r3, 1; call 12; exit", api.TrapCall, 5)
	b.traps(t, ask+"mov r3, r1; call 12; exit", api.TrapCall, 5)
	b.traps(t, ask+"mov r3, r10; add r3, 4; call 12; exit", api.TrapCall, 6)
	b.traps(t, "mov r9, r1; "+ask+"mov r3, r9; add r3, 4; call 12; exit", api.TrapCall, 7)
	b.traps(t, ask+"call 12; exit", api.TrapCall, 4)
	b.traps(t, "ld8 r1, [r1+8]; mov r3, 4; call 12; exit", api.TrapRead, 3)
	b.tells(t, ask+"mov r3, 32; call 12; exit", 7, 6)
	b.tells(t, ask+"mov r3, 1; call 12; exit", 1, 6)
	// No byte is written by a call that traps, and nothing is asked of what is there.
	b.tells(t, "mov r4, r1; ld8 r1, [r1+8]; mov r2, r10; add r2, -1; mov r3, 1; call 12; exit", 1, 7)
}

func TestLengthsOfRecords(t *testing.T) { // P18.1
	for n := -2; n <= 40; n++ {
		b := usual(t)
		lines := "map r1, 3; mov r2, " + strconv.Itoa(n) + "; call 8; "
		if n < 1 || n > 32 {
			b.traps(t, lines+"exit", api.TrapCall, 3)
			if b.r.Drops() != 0 || b.r.Used() != 0 {
				t.Errorf("%d bytes: %d drops, %d used", n, b.r.Drops(), b.r.Used())
			}
			continue
		}
		b.tells(t, lines+"mov r1, r0; call 9; exit", 0, 6)
		if b.r.Used() != n+8 {
			t.Errorf("%d bytes: %d used", n, b.r.Used())
		}
	}
}

func TestRecordsFromTheirBeginning(t *testing.T) { // P18.1
	b := usual(t)
	one := "map r1, 3; mov r2, 8; call 8; mov r6, r0; "
	for _, n := range []string{"9", "10"} {
		for _, move := range []string{"add r1, 1", "add r1, -1", "add r1, 8", "sub r1, -8", "lddw r2, 4294967296; add r1, r2"} {
			steps := 7 + strings.Count(move, ";")
			b.copied().traps(t, one+"mov r1, r6; "+move+"; call "+n+"; exit", api.TrapCall, steps)
		}
		b.copied().tells(t, one+"mov r1, r6; add r1, 8; sub r1, 8; call "+n+"; exit", 0, 9)
		b.copied().traps(t, one+"st8 [r6+0], 1; mov r1, r6; call "+n+"; mov r1, r6; call "+n+"; exit", api.TrapCall, 9)
	}
}

func TestRecordsThatOthersHold(t *testing.T) { // P18.1, P18.2
	b := usual(t)
	b.r.Reserve(5, 4)
	b.r.Reserve(6, 8)
	// The numbers of other records are no records.
	for _, n := range []string{"9", "10"} {
		for id := range 3 {
			b.traps(t, "mov r1, "+strconv.Itoa(id)+"; call "+n+"; exit", api.TrapCall, 2)
		}
	}
	b.tells(t, "map r1, 3; mov r2, 8; call 8; st8 [r0+0], 7; mov r1, r0; call 9; exit", 0, 7)
	if held := b.r.Held(); !slices.Equal(held, []int{0, 1}) {
		t.Errorf("held: %v", held)
	}
	if want := "\x00\x05\x00\x04" + strings.Repeat("\x00", 4) + "\x01\x06\x00\x08" + strings.Repeat("\x00", 8) + "\x02\x05\x01\x08\x07" + strings.Repeat("\x00", 7); string(b.r.Bytes()) != want {
		t.Errorf("left: %q", b.r.Bytes())
	}
}

func TestKeysAndValuesAreCopied(t *testing.T) { // P18.1
	b := usual(t)
	b.tells(t, "st8 [r10-8], 5; map r1, 1; mov r2, r10; add r2, -8; mov r3, r2; mov r4, 0; call 2; st8 [r10-8], 6; map r1, 1; mov r2, r10; add r2, -8; call 1; exit", 0, 13)
	b.tells(t, "st8 [r10-8], 5; map r1, 1; mov r2, r10; add r2, -8; call 1; st4 [r10-8], 9; ld4 r0, [r0+0]; exit", 5, 8)
	// A value goes out of a slot by the stack alone.
	b.tells(t, "st8 [r10-8], 5; map r1, 1; mov r2, r10; add r2, -8; call 1; st4 [r0+0], 77; ld4 r0, [r10-8]; exit", 5, 8)
	b.traps(t, "st8 [r10-8], 5; map r1, 1; mov r2, r10; add r2, -8; call 1; mov r6, r0; map r1, 1; mov r2, r6; call 1; exit", api.TrapCall, 9)
}

func TestMapsThatAreEmpty(t *testing.T) { // P18.1
	b := usual(t)
	b.o, _ = owned.New(nil)
	b.tells(t, "mov r0, 3; exit", 3, 2)
	b.traps(t, "mov r1, 0; mov r2, 8; call 8; exit", api.TrapCall, 3)
}
