package asm

import (
	"fmt"
	"math"
	"math/big"
	"regexp"
	"slices"
	"strings"
	"testing"

	"halberd/api"
	"halberd/samples"
)

// row is a line and what it stands for.
type row struct {
	line string
	l    []api.Inst
}

// numbered is a word and the operation's number, written out.
type numbered struct {
	text string
	op   byte
}

func allOperations() []numbered {
	return []numbered{
		{"add", 0x00}, {"sub", 0x10}, {"mul", 0x20}, {"div", 0x30}, {"or", 0x40}, {"and", 0x50},
		{"lsh", 0x60}, {"rsh", 0x70}, {"mod", 0x90}, {"xor", 0xA0}, {"mov", 0xB0}, {"arsh", 0xC0},
	}
}

func allConditions() []numbered {
	return []numbered{
		{"jeq", 0x10}, {"jgt", 0x20}, {"jge", 0x30}, {"jset", 0x40}, {"jne", 0x50}, {"jsgt", 0x60},
		{"jsge", 0x70}, {"jlt", 0xA0}, {"jle", 0xB0}, {"jslt", 0xC0}, {"jsle", 0xD0},
	}
}

// sizes of memory's words, by the bits of their opcodes.
func sizes() []numbered {
	return []numbered{{"4", 0x60}, {"2", 0x68}, {"1", 0x70}, {"8", 0x78}}
}

func imms() []int32 { return []int32{math.MinInt32, -1, 0, 1, math.MaxInt32} }

func offs() []int16 { return []int16{math.MinInt16, -1, 0, 1, math.MaxInt16} }

func wides() []int64 {
	return []int64{math.MinInt64, math.MinInt64 + 1, -1 << 33, -1 << 32, -1<<32 - 1, -1<<32 + 1, math.MinInt32 - 1, math.MinInt32, -1, 0, 1, math.MaxInt32, 1 << 31, 1<<32 - 1, 1 << 32, 1<<32 + 1, 7 << 40, math.MaxInt64 - 1, math.MaxInt64}
}

// wide tells the two instructions of a LdWide, their numbers cut by hand.
func wide(dst, src byte, n int64) []api.Inst {
	return []api.Inst{{Op: 0x18, Dst: dst, Src: src, Imm: int32(uint32(n))}, {Imm: int32(n >> 32)}}
}

func one(format string, x api.Inst, args ...any) row {
	return row{fmt.Sprintf(format, args...), []api.Inst{x}}
}

func operationRows(dst, src byte) []row {
	var rows []row
	for _, o := range allOperations() {
		for _, imm := range imms() {
			rows = append(rows, one("%s r%d, %d", api.Inst{Op: o.op + 7, Dst: dst, Imm: imm}, o.text, dst, imm))
			rows = append(rows, one("%s32 r%d, %d", api.Inst{Op: o.op + 4, Dst: dst, Imm: imm}, o.text, dst, imm))
		}
		rows = append(rows, one("%s r%d, r%d", api.Inst{Op: o.op + 15, Dst: dst, Src: src}, o.text, dst, src))
		rows = append(rows, one("%s32 r%d, r%d", api.Inst{Op: o.op + 12, Dst: dst, Src: src}, o.text, dst, src))
	}
	rows = append(rows, one("neg r%d", api.Inst{Op: 0x87, Dst: dst}, dst))
	return append(rows, one("neg32 r%d", api.Inst{Op: 0x84, Dst: dst}, dst))
}

func conditionRows(dst, src byte, off int16) []row {
	var rows []row
	for _, c := range allConditions() {
		for _, imm := range imms() {
			rows = append(rows, one("%s r%d, %d, +%d", api.Inst{Op: c.op + 5, Dst: dst, Off: off, Imm: imm}, c.text, dst, imm, off))
			rows = append(rows, one("%s32 r%d, %d, +%d", api.Inst{Op: c.op + 6, Dst: dst, Off: off, Imm: imm}, c.text, dst, imm, off))
		}
		rows = append(rows, one("%s r%d, r%d, +%d", api.Inst{Op: c.op + 13, Dst: dst, Src: src, Off: off}, c.text, dst, src, off))
		rows = append(rows, one("%s32 r%d, r%d, +%d", api.Inst{Op: c.op + 14, Dst: dst, Src: src, Off: off}, c.text, dst, src, off))
	}
	return rows
}

func memoryRows(dst, src byte, off int16) []row {
	var rows []row
	for _, s := range sizes() {
		if dst < 10 {
			rows = append(rows, one("ld%s r%d, [r%d%+d]", api.Inst{Op: s.op + 1, Dst: dst, Src: src, Off: off}, s.text, dst, src, off))
		}
		for _, imm := range imms() {
			rows = append(rows, one("st%s [r%d%+d], %d", api.Inst{Op: s.op + 2, Dst: dst, Off: off, Imm: imm}, s.text, dst, off, imm))
		}
		rows = append(rows, one("st%s [r%d%+d], r%d", api.Inst{Op: s.op + 3, Dst: dst, Src: src, Off: off}, s.text, dst, off, src))
	}
	return rows
}

func wideRows(dst byte) []row {
	var rows []row
	for _, n := range wides() {
		rows = append(rows, row{fmt.Sprintf("lddw r%d, %d", dst, n), wide(dst, 0, n)})
		if n >= 0 {
			rows = append(rows, row{fmt.Sprintf("map r%d, %d", dst, n), wide(dst, 1, n)})
		}
	}
	return rows
}

func otherRows() []row {
	rows := []row{{"exit", []api.Inst{{Op: 0x95}}}}
	for _, n := range []int32{0, 1, 13, math.MaxInt32} {
		rows = append(rows, one("call %d", api.Inst{Op: 0x85, Imm: n}, n))
	}
	for _, off := range []int16{0, 1, 62, math.MaxInt16} {
		rows = append(rows, one("ja +%d", api.Inst{Op: 0x05, Off: off}, off))
	}
	return rows
}

// table has each line of the chapter's table, with the edges of each of its parts.
func table() []row {
	rows := otherRows()
	for _, dst := range []byte{0, 1, 9, 10} {
		for _, src := range []byte{0, 1, 10} {
			for _, off := range offs() {
				rows = append(rows, memoryRows(dst, src, off)...)
				if off >= 0 {
					rows = append(rows, conditionRows(dst, src, off)...)
				}
			}
			if dst < 10 {
				rows = append(rows, operationRows(dst, src)...)
			}
		}
		if dst < 10 {
			rows = append(rows, wideRows(dst)...)
		}
	}
	return rows
}

func checkText(t *testing.T, l []api.Inst, want string) {
	t.Helper()
	if got, err := Text(l); got != want || err != api.OK {
		t.Errorf("Text(%v): %q, %d, not %q", l, got, err, want)
	}
}

func checkNoText(t *testing.T, name string, l []api.Inst) {
	t.Helper()
	if got, err := Text(l); got != "" || err != api.EINVAL {
		t.Errorf("%s: Text(%v): %q, %d", name, l, got, err)
	}
}

func checkRead(t *testing.T, s string, want []api.Inst) {
	t.Helper()
	if got, err := Read(s); !slices.Equal(got, want) || err != api.OK {
		t.Errorf("Read(%q): %v, %d, not %v", s, got, err, want)
	}
}

func checkNoRead(t *testing.T, s string) {
	t.Helper()
	if got, err := Read(s); len(got) != 0 || err != api.EINVAL {
		t.Errorf("Read(%q): %v, %d", s, got, err)
	}
}

func TestTextByHand(t *testing.T) { // P5.1
	for _, r := range byHand() {
		checkText(t, r.l, r.line+"\n")
	}
}

func TestReadByHand(t *testing.T) { // P5.2
	for _, r := range byHand() {
		checkRead(t, r.line, r.l)
		checkRead(t, r.line+"\n", r.l)
	}
}

// byHand has a line of each shape, its numbers written out.
func byHand() []row {
	return []row{
		{"mov r1, 5", []api.Inst{{Op: 183, Dst: 1, Imm: 5}}},
		{"mov r1, -5", []api.Inst{{Op: 0xB7, Dst: 1, Imm: -5}}},
		{"mov r9, r10", []api.Inst{{Op: 0xBF, Dst: 9, Src: 10}}},
		{"mov32 r0, 2147483647", []api.Inst{{Op: 0xB4, Imm: math.MaxInt32}}},
		{"add r0, -2147483648", []api.Inst{{Op: 0x07, Imm: math.MinInt32}}},
		{"add32 r9, r0", []api.Inst{{Op: 0x0C, Dst: 9}}},
		{"arsh r3, 63", []api.Inst{{Op: 0xC7, Dst: 3, Imm: 63}}},
		{"xor32 r3, r4", []api.Inst{{Op: 0xAC, Dst: 3, Src: 4}}},
		{"neg r0", []api.Inst{{Op: 0x87}}},
		{"neg32 r9", []api.Inst{{Op: 0x84, Dst: 9}}},
		{"jeq r1, 0, +2", []api.Inst{{Op: 0x15, Dst: 1, Off: 2}}},
		{"jne r10, r10, +0", []api.Inst{{Op: 0x5D, Dst: 10, Src: 10}}},
		{"jset32 r2, -1, +32767", []api.Inst{{Op: 0x46, Dst: 2, Off: math.MaxInt16, Imm: -1}}},
		{"jsle32 r0, r9, +1", []api.Inst{{Op: 0xDE, Src: 9, Off: 1}}},
		{"ja +0", []api.Inst{{Op: 0x05}}},
		{"ja +32767", []api.Inst{{Op: 0x05, Off: math.MaxInt16}}},
		{"call 0", []api.Inst{{Op: 0x85}}},
		{"call 2147483647", []api.Inst{{Op: 0x85, Imm: math.MaxInt32}}},
		{"exit", []api.Inst{{Op: 0x95}}},
		{"ld1 r0, [r0+0]", []api.Inst{{Op: 0x71}}},
		{"ld2 r1, [r2-1]", []api.Inst{{Op: 0x69, Dst: 1, Src: 2, Off: -1}}},
		{"ld4 r9, [r10-32768]", []api.Inst{{Op: 0x61, Dst: 9, Src: 10, Off: math.MinInt16}}},
		{"ld8 r2, [r1+8]", []api.Inst{{Op: 0x79, Dst: 2, Src: 1, Off: 8}}},
		{"st1 [r10-1], 7", []api.Inst{{Op: 0x72, Dst: 10, Off: -1, Imm: 7}}},
		{"st2 [r3+32767], -7", []api.Inst{{Op: 0x6A, Dst: 3, Off: math.MaxInt16, Imm: -7}}},
		{"st4 [r0+0], r0", []api.Inst{{Op: 0x63}}},
		{"st8 [r10-8], r2", []api.Inst{{Op: 0x7B, Dst: 10, Src: 2, Off: -8}}},
		{"st1 [r1+2], r10", []api.Inst{{Op: 0x73, Dst: 1, Src: 10, Off: 2}}},
		{"st8 [r1+2], -2147483648", []api.Inst{{Op: 0x7A, Dst: 1, Off: 2, Imm: math.MinInt32}}},
		{"lddw r0, 0", []api.Inst{{Op: 0x18}, {}}},
		{"lddw r1, -1", []api.Inst{{Op: 0x18, Dst: 1, Imm: -1}, {Imm: -1}}},
		{"lddw r1, 4294967295", []api.Inst{{Op: 0x18, Dst: 1, Imm: -1}, {}}},
		{"lddw r9, 4294967296", []api.Inst{{Op: 0x18, Dst: 9}, {Imm: 1}}},
		{"lddw r2, 9223372036854775807", []api.Inst{{Op: 0x18, Dst: 2, Imm: -1}, {Imm: math.MaxInt32}}},
		{"lddw r2, -9223372036854775808", []api.Inst{{Op: 0x18, Dst: 2}, {Imm: math.MinInt32}}},
		{"map r1, 0", []api.Inst{{Op: 0x18, Dst: 1, Src: 1}, {}}},
		{"map r1, 3", []api.Inst{{Op: 0x18, Dst: 1, Src: 1, Imm: 3}, {}}},
		{"map r1, 2147483648", []api.Inst{{Op: 0x18, Dst: 1, Src: 1, Imm: math.MinInt32}, {}}},
		{"map r1, 4294967296", []api.Inst{{Op: 0x18, Dst: 1, Src: 1}, {Imm: 1}}},
		{"map r9, 9223372036854775807", []api.Inst{{Op: 0x18, Dst: 9, Src: 1, Imm: -1}, {Imm: math.MaxInt32}}},
	}
}

func TestTextOfEachLine(t *testing.T) { // P5.1
	for _, r := range table() {
		checkText(t, r.l, r.line+"\n")
	}
}

func TestReadOfEachLine(t *testing.T) { // P5.2
	for _, r := range table() {
		checkRead(t, r.line+"\n", r.l)
		checkRead(t, r.line, r.l)
	}
}

func TestEachRegister(t *testing.T) { // P5.1, P5.2
	for r := range byte(11) {
		rows := []row{
			one("jle r%d, r%d, +1", api.Inst{Op: 0xBD, Dst: r, Src: r, Off: 1}, r, r),
			one("st2 [r%d+1], r%d", api.Inst{Op: 0x6B, Dst: r, Src: r, Off: 1}, r, r),
		}
		if r < 10 {
			rows = append(rows,
				one("mul32 r%d, r%d", api.Inst{Op: 0x2C, Dst: r, Src: r}, r, r),
				one("neg r%d", api.Inst{Op: 0x87, Dst: r}, r),
				one("ld4 r%d, [r%d-1]", api.Inst{Op: 0x61, Dst: r, Src: r, Off: -1}, r, r),
				row{fmt.Sprintf("map r%d, 1", r), wide(r, 1, 1)})
		}
		for _, x := range rows {
			checkText(t, x.l, x.line+"\n")
			checkRead(t, x.line, x.l)
		}
	}
}

func TestTextOfEachInstruction(t *testing.T) { // P5.1
	lines := map[api.Inst]string{}
	for _, r := range table() {
		if len(r.l) == 1 {
			lines[r.l[0]] = r.line + "\n"
		}
	}
	for op := range 256 {
		for _, dst := range []byte{0, 9, 10, 11, 255} {
			for _, src := range []byte{0, 1, 10, 11} {
				for _, off := range offs() {
					for _, imm := range []int32{math.MinInt32, -1, 0, 1} {
						x := api.Inst{Op: byte(op), Dst: dst, Src: src, Off: off, Imm: imm}
						want, there := lines[x]
						if got, err := Text([]api.Inst{x}); got != want || (err == api.OK) != there || !there && err != api.EINVAL {
							t.Fatalf("Text of %+v: %q, %d, not %q", x, got, err, want)
						}
					}
				}
			}
		}
	}
}

// Instructions that wrong codes are made of.
var (
	ret   = api.Inst{Op: 0x95}
	mov   = api.Inst{Op: 0xB7}
	wide0 = api.Inst{Op: 0x18}
	map0  = api.Inst{Op: 0x18, Src: 1}
	tail  = api.Inst{}
)

func wrongCodes() map[string][]api.Inst {
	return map[string][]api.Inst{
		"mov into r10":               {{Op: 0xB7, Dst: 10}},
		"mov from r11":               {{Op: 0xBF, Src: 11}},
		"mov of both":                {{Op: 0xBF, Src: 1, Imm: 1}},
		"mov with Off":               {{Op: 0xB7, Off: 1}},
		"neg with a number":          {{Op: 0x87, Imm: 1}},
		"neg from a register":        {{Op: 0x8F, Src: 1}},
		"load into r10":              {{Op: 0x79, Dst: 10}},
		"load with Imm":              {{Op: 0x79, Imm: 1}},
		"store to r11":               {{Op: 0x7A, Dst: 11}},
		"exit with Imm":              {{Op: 0x95, Imm: 1}},
		"exit32":                     {{Op: 0x96}},
		"call32":                     {{Op: 0x86}},
		"ja32":                       {{Op: 0x06}},
		"ja with Imm":                {{Op: 0x05, Imm: 1}},
		"operation behind Arsh":      {{Op: 0xD7}},
		"condition behind Jsle":      {{Op: 0xE5}},
		"a jump back":                {{Op: 0x15, Off: -1}},
		"a jump from a register":     {{Op: 0x1D, Off: -1}},
		"a jump of 32 bits back":     {{Op: 0xD6, Off: -1}},
		"a jump back, the farthest":  {{Op: 0xDE, Off: math.MinInt16}},
		"ja -1":                      {{Op: 0x05, Off: -1}},
		"ja, the farthest":           {{Op: 0x05, Off: math.MinInt16}},
		"call -1":                    {{Op: 0x85, Imm: -1}},
		"call of the least":          {{Op: 0x85, Imm: math.MinInt32}},
		"a second one alone":         {tail},
		"a second one with a number": {{Imm: 5}},
		"a second one behind a mov":  {mov, tail},
		"two second ones":            {wide0, tail, tail},
		"no second one":              {wide0},
		"a map without second one":   {map0},
		"another behind it":          {wide0, mov},
		"an exit behind a map":       {map0, ret},
		"two first ones":             {wide0, wide0, tail},
		"second one with Dst":        {wide0, {Dst: 1}},
		"second one with Src":        {wide0, {Src: 1}},
		"second one with Off":        {wide0, {Off: 1}},
		"second one with Op":         {wide0, {Op: 0x01}},
		"a LdWide into r10":          {{Op: 0x18, Dst: 10}, tail},
		"a map into r10":             {{Op: 0x18, Dst: 10, Src: 1}, tail},
		"a LdWide with Src 2":        {{Op: 0x18, Src: 2}, tail},
		"a LdWide with Off":          {{Op: 0x18, Off: 1}, tail},
		"the map 2^63":               wide(1, 1, math.MinInt64),
		"the map 2^63 and 1":         wide(1, 1, math.MinInt64+1),
		"the map 2^64 less 1":        wide(1, 1, -1),
		"the map 2^64 less 2^32":     wide(1, 1, -1<<32),
	}
}

func TestTextOfWrongCodes(t *testing.T) { // P5.1
	right := slices.Concat([]api.Inst{mov}, wide(3, 0, 1<<40), wide(3, 1, 2), []api.Inst{mov})
	for name, l := range wrongCodes() {
		checkNoText(t, name, l)
		checkNoText(t, name+", at the end", slices.Concat(right, l))
		checkNoText(t, name+", ahead", slices.Concat(l, []api.Inst{ret}))
		checkNoText(t, name+", in between", slices.Concat(right, l, right))
	}
}

func TestTextOfEachJumpBack(t *testing.T) { // P5.1
	for _, r := range slices.Concat(conditionRows(1, 2, 0), []row{{"ja +0", []api.Inst{{Op: 0x05}}}}) {
		for _, off := range []int16{-1, -2, -256, math.MinInt16} {
			x := r.l[0]
			x.Off = off
			checkNoText(t, r.line, []api.Inst{x})
		}
	}
}

// The chapter names no error for a list without instructions: it has no lines.
func TestTextOfNothing(t *testing.T) { // P5.1
	checkText(t, nil, "")
	checkText(t, []api.Inst{}, "")
	checkText(t, []api.Inst{ret}[:0], "")
}

func TestTextOfManyLines(t *testing.T) { // P5.1
	l := slices.Concat([]api.Inst{mov, {Op: 0x79, Dst: 2, Src: 1, Off: 8}}, wide(1, 0, -2), wide(1, 1, 2), []api.Inst{{Op: 0x05, Off: 1}, ret, ret})
	checkText(t, l, "mov r0, 0\nld8 r2, [r1+8]\nlddw r1, -2\nmap r1, 2\nja +1\nexit\nexit\n")
	checkText(t, l[:4], "mov r0, 0\nld8 r2, [r1+8]\nlddw r1, -2\n")
	checkText(t, []api.Inst{ret, mov}, "exit\nmov r0, 0\n")
	// Behind MaxInsts the chapter names no error either.
	for _, n := range []int{63, 64, 65, 300} {
		checkText(t, slices.Repeat([]api.Inst{mov}, n), strings.Repeat("mov r0, 0\n", n))
		checkRead(t, strings.Repeat("mov r0, 0\n", n), slices.Repeat([]api.Inst{mov}, n))
	}
}

func TestTextLeavesTheCode(t *testing.T) { // P5.1
	room := slices.Concat(wide(1, 1, 7), []api.Inst{mov, wide0, tail, {Op: 0x05, Off: -1}})
	kept := slices.Clone(room)
	for i := range len(room) + 1 {
		Text(room[:i])
	}
	if !slices.Equal(room, kept) {
		t.Errorf("the code was turned: %v", room)
	}
	// The second one stands in the spare room alone.
	checkNoText(t, "spare room's second one", room[:1])
}

func wrongTexts() []string {
	return slices.Concat(wrongWords(), wrongBlanks(), wrongRegisters(), wrongNumbers(), wrongPlaces(), wrongJumps())
}

func wrongWords() []string {
	return []string{
		"foo", "foo r1, 5", "Mov r1, 5", "MOV r1, 5", "mo r1, 5", "movv r1, 5", "mov64 r1, 5", "mov3 r1, 5", "mov323 r1, 5", "mov 32 r1, 5",
		"neg64 r1", "exit32", "exi", "exit0", "Exit", "ja32 +1", "call32 1", "lddw32 r1, 1", "map32 r1, 1", "lddw64 r1, 1", "ldx r1, [r1+0]",
		"ld r1, [r2+0]", "ld0 r1, [r2+0]", "ld3 r1, [r2+0]", "ld16 r1, [r2+0]", "ld64 r1, [r2+0]", "ld832 r1, [r2+0]", "ld08 r1, [r2+0]",
		"st [r2+0], 1", "st3 [r2+0], 1", "st16 [r2+0], 1", "st832 [r2+0], r1", "stx8 [r2+0], r1",
		"jmp +1", "jeq64 r1, 1, +1", "jz r1, 0, +1", "ja32 r1, 1, +1", "jge33 r1, 1, +1",
		"5", "r1", "0", "+0", "[r1+0]", ",", ", ", "%", "mov", "neg", "ja", "call", "jeq", "lddw", "map", "ld8", "st8",
		"\x00", "exit\x00", "exit;", "exit;exit", "exit # why", "// exit", "möv r1, 5", "\xff", "ｍov r1, 5", "mov r1, 5\x00",
	}
}

func wrongBlanks() []string {
	return []string{
		" exit", "exit ", " ", "  ", "exit  ", "exit 0", "exit r0", "exit,", "exit, ", " mov r1, 5", "mov  r1, 5", "mov r1,  5", "mov r1,5", "mov r1 , 5", "mov r1 5", "mov r1, 5 ", "mov r1, 5,", "mov r1, 5, ",
		"mov r1, 5, 6", "mov r1, 5, r1", "mov r1, r2, r3", "mov r1", "mov r1,", "mov r1, ", "mov , 5", "mov, r1, 5", "mov ", "mov r1; 5", "movr1, 5", "mov\tr1, 5", "mov r1,\t5", "mov r1, 5\t", "mov r1, 5\r", "mov\u00a0r1, 5",
		"neg r1, 5", "neg r1, r2", "neg r1 ", "neg  r1", "neg ", "neg r1,", "neg 1", "neg -1", "neg32 r1, 1",
		"jeq r1, 0", "jeq r1, 0 +2", "jeq r1, 0,+2", "jeq r1 0, +2", "jeq r1, 0,  +2", "jeq r1,  0, +2", "jeq  r1, 0, +2", "jeq r1, 0, +2 ", "jeq r1, 0, +2, +2", "jeq r1, +2", "jeq r1, 0, 0, +2", "jeq r1, 0, ", "jeq r1, 0, +",
		"ja", "ja ", "ja  +1", "ja +1 ", "ja +1, +1", "ja+1", "call  1", "call 1 ", "call 1, 2", "call1", "call ",
		"ld8 r2,[r1+8]", "ld8 r2 [r1+8]", "ld8  r2, [r1+8]", "ld8 r2,  [r1+8]", "ld8 r2, [r1+8] ", "ld8 r2, [r1+8], 1", "ld8 [r1+8], r2", "ld8 [r1+8]", "ld8 r2",
		"st8 [r10-8],r2", "st8 [r10-8] r2", "st8  [r10-8], r2", "st8 [r10-8],  r2", "st8 [r10-8], r2 ", "st8 [r10-8], r2, r3", "st8 r2, [r10-8]", "st8 [r10-8]", "st8 [r10-8], ", "st8 [r10-8], [r10-8]",
		"lddw  r1, 1", "lddw r1,1", "lddw r1 1", "lddw r1, 1 ", "lddw r1, 1, 2", "lddw r1, ", "lddw r1", "map  r1, 1", "map r1,1", "map r1, 1 ", "map r1, 1, 1", "map r1", "map 1",
	}
}

func wrongRegisters() []string {
	var l []string
	for _, r := range []string{"r11", "r01", "r00", "r010", "r-1", "r-0", "r+1", "r", "R1", "r1r", "rr1", "r 1", "r99", "r100", "r256", "r266", "r4294967297", "r18446744073709551617", "1r", "fp", "r1_0", "r٣", "rx", "r0x1", "w1"} {
		l = append(l,
			"mov "+r+", 5", "mov r1, "+r, "add32 "+r+", r2", "neg "+r, "neg32 "+r,
			"jeq "+r+", 0, +2", "jeq r1, "+r+", +2", "jsle32 "+r+", r1, +2", "jsle32 r1, "+r+", +2",
			"ld8 "+r+", [r1+8]", "ld8 r1, ["+r+"+8]", "ld1 r1, ["+r+"-8]",
			"st8 ["+r+"+8], r1", "st8 [r1+8], "+r, "st2 ["+r+"-8], 5",
			"lddw "+r+", 5", "map "+r+", 5")
	}
	// r10 isn't written, and no line has an operand that is a register where the table has none.
	return append(l, "mov r10, 5", "mov r10, r1", "add32 r10, 5", "sub32 r10, r10", "neg r10", "neg32 r10", "ld1 r10, [r1+8]", "ld8 r10, [r10-8]", "lddw r10, 5", "map r10, 0",
		"mov 5, r1", "mov 5, 5", "jeq 0, r1, +2", "jeq r1, 0, r2", "ja r1", "call r1", "lddw r1, r2", "map r1, r2", "ld8 1, [r1+8]", "ld8 r1, r2", "ld8 r1, 5", "st8 r1, r2", "st8 5, r2")
}

func wrongNumbers() []string {
	l := []string{
		"lddw r1, 9223372036854775808", "lddw r1, -9223372036854775809", "lddw r1, 18446744073709551615", "lddw r1, 18446744073709551616", "lddw r1, 99999999999999999999999",
		"map r1, 9223372036854775808", "map r1, 18446744073709551615", "map r1, 18446744073709551616", "map r1, -1", "map r1, -9223372036854775808",
		"call 2147483648", "call -1", "call -2147483648", "call 4294967296", "call +1",
	}
	for _, n := range []string{"01", "00", "-0", "-01", "+0", "+5", "-", "+", "--5", "-+5", "+-5", "5-", "5+", "- 5", "5 5", "5.0", "5e1", "0x5", "0b1", "0o7", "1_000", "five", "٣", "5\x00", "\x005", "_5", "'5'", "5u", "a", "-a"} {
		l = append(l, "mov r1, "+n, "mov32 r1, "+n, "jeq r1, "+n+", +2", "jeq32 r1, "+n+", +2", "st8 [r1+8], "+n, "lddw r1, "+n, "map r1, "+n, "call "+n)
	}
	for _, n := range []string{"2147483648", "-2147483649", "4294967295", "4294967296", "-4294967296", "9223372036854775807", "-9223372036854775808", "18446744073709551617", "99999999999999999999999"} {
		l = append(l, "mov r1, "+n, "add32 r1, "+n, "jgt r1, "+n+", +2", "jslt32 r1, "+n+", +2", "st1 [r1+8], "+n, "st4 [r1-8], "+n, "st8 [r1+8], "+n)
	}
	return l
}

func wrongPlaces() []string {
	var l []string
	for _, p := range []string{
		"[r1]", "[r1+]", "[r1-]", "[r1-0]", "[r1+00]", "[r1+08]", "[r1-08]", "[r1--8]", "[r1-+8]", "[r1+-8]", "[r1++8]", "[r1+-0]", "[r1 + 8]", "[r1 +8]", "[r1+ 8]", "[ r1+8]", "[r1+8 ]", "[r1+8", "r1+8]", "r1+8", "(r1+8)", "[[r1+8]]", "[r1+8]]", "[[r1+8]", "[]", "[", "]", "][", "[+8]", "[-8]", "[8]", "[8+r1]", "[r1+r2]", "[r1+8+8]", "[r1+8-8]", "[r1*8]", "[r1,8]", "[r1, 8]", "[r1+0x8]", "[r1+8]0",
		"[r1+32768]", "[r1-32769]", "[r1+65536]", "[r1-65536]", "[r1+65535]", "[r1+99999999999999999999]", "[r1-99999999999999999999]", "[r1+4294967296]", "[r1-4294967297]", "",
	} {
		l = append(l, "ld8 r2, "+p, "ld1 r2, "+p, "st8 "+p+", r2", "st2 "+p+", 5")
	}
	return l
}

func wrongJumps() []string {
	var l []string
	for _, off := range []string{"2", "0", "-1", "-0", "-2", "+-2", "+-0", "++2", "-+2", "+", "-", "+00", "+02", "+2.0", "+32768", "+65535", "+65536", "-32768", "+4294967296", "+99999999999999999999", "+a", "+r1", "+ 2", "[+2]", "2+", ""} {
		l = append(l, "ja "+off, "jeq r1, 0, "+off, "jne r1, r2, "+off, "jsgt32 r1, 0, "+off, "jsle32 r1, r2, "+off)
	}
	return l
}

func TestReadOfWrongTexts(t *testing.T) { // P5.2
	const right = "mov r0, 0\nlddw r1, 5\n"
	for _, line := range append(wrongTexts(), "", "\n", "\r") {
		if line != "" {
			checkNoRead(t, line)
			checkNoRead(t, right+line)
		}
		checkNoRead(t, line+"\n")
		checkNoRead(t, right+line+"\n")
		checkNoRead(t, line+"\n"+right)
		checkNoRead(t, right+line+"\n"+right)
	}
}

func TestReadOfEmptyLines(t *testing.T) { // P5.2
	checkRead(t, "exit", []api.Inst{ret})
	checkRead(t, "exit\n", []api.Inst{ret})
	checkRead(t, "exit\nexit", []api.Inst{ret, ret})
	for _, s := range []string{"", "\n", "\n\n", "exit\n\n", "\nexit", "\nexit\n", "exit\n\nexit", "exit\n\n\n", "exit\n \n", "exit\r\n", "exit\r\nexit\r\n", "exit\rexit", "exit\vexit", "exit\u2028exit"} {
		checkNoRead(t, s)
	}
}

func TestReadTellsNewMemory(t *testing.T) { // P5.2
	const text = "mov r0, 1\nlddw r1, 2\nexit\n"
	a, _ := Read(text)
	b, _ := Read(text)
	want := slices.Clone(b)
	for i := range a {
		a[i] = api.Inst{Op: 1}
	}
	if !slices.Equal(b, want) {
		t.Errorf("another answer was turned: %v", b)
	}
	checkRead(t, text, want)
}

// shape is a pattern of the chapter's table, in which number's names tell their bounds.
func shapes() []*regexp.Regexp {
	const (
		reg     = `r(?:[0-9]|10)`
		written = `r[0-9]`
		natural = `(?:0|[1-9][0-9]*)`
		num     = `(?:0|-?[1-9][0-9]*)`
		x       = `(?:` + reg + `|(?P<imm>` + num + `))`
		place   = `\[` + reg + `(?P<off>\+` + natural + `|-[1-9][0-9]*)\]`
		jump    = `(?P<jump>\+` + natural + `)`
	)
	var l []*regexp.Regexp
	for _, s := range []string{
		`(?:add|sub|mul|div|or|and|lsh|rsh|mod|xor|mov|arsh)(?:32)? ` + written + `, ` + x,
		`neg(?:32)? ` + written,
		`j(?:eq|gt|ge|set|ne|sgt|sge|lt|le|slt|sle)(?:32)? ` + reg + `, ` + x + `, ` + jump,
		`ja ` + jump,
		`call (?P<count>` + natural + `)`,
		`exit`,
		`ld[1248] ` + written + `, ` + place,
		`st[1248] ` + place + `, ` + x,
		`lddw ` + written + `, (?P<wide>` + num + `)`,
		`map ` + written + `, (?P<map>` + natural + `)`,
	} {
		l = append(l, regexp.MustCompile(`\A`+s+`\z`))
	}
	return l
}

// within tells whether a pattern's number keeps to its bounds, reckoned by numbers of any size.
func within(name, digits string) bool {
	n, ok := new(big.Int).SetString(digits, 10)
	if !ok {
		return digits == ""
	}
	least, greatest := big.NewInt(0), big.NewInt(math.MaxInt16)
	switch name {
	case "imm":
		least, greatest = big.NewInt(math.MinInt32), big.NewInt(math.MaxInt32)
	case "off":
		least = big.NewInt(math.MinInt16)
	case "count":
		greatest = big.NewInt(math.MaxInt32)
	case "wide":
		least, greatest = big.NewInt(math.MinInt64), big.NewInt(math.MaxInt64)
	case "map":
		greatest = big.NewInt(math.MaxInt64)
	}
	return n.Cmp(least) >= 0 && n.Cmp(greatest) <= 0
}

// isLine is a second telling of the chapter's table.
func isLine(shapes []*regexp.Regexp, s string) bool {
	return slices.ContainsFunc(shapes, func(shape *regexp.Regexp) bool {
		found := shape.FindStringSubmatch(s)
		for i, name := range shape.SubexpNames() {
			if found != nil && name != "" && !within(name, found[i]) {
				return false
			}
		}
		return found != nil
	})
}

// checkAsTold holds Read against the second telling, and Text against what was read.
func checkAsTold(t *testing.T, shapes []*regexp.Regexp, s string) bool {
	t.Helper()
	want := s != ""
	for _, line := range strings.Split(strings.TrimSuffix(s, "\n"), "\n") {
		want = want && isLine(shapes, line)
	}
	if !want {
		checkNoRead(t, s)
		return false
	}
	l, err := Read(s)
	if err != api.OK || len(l) == 0 {
		t.Errorf("Read(%q): %v, %d", s, l, err)
	}
	checkText(t, l, strings.TrimSuffix(s, "\n")+"\n")
	return true
}

// seeds has lines whose bytes are turned one by one below.
func seeds() []string {
	return []string{
		"mov r1, 5", "or32 r9, -2147483648", "and32 r0, r10", "neg32 r9", "neg r0", "exit", "ja +32767", "call 2147483647",
		"jset r10, 2147483647, +0", "jsle32 r1, r2, +9", "ld1 r2, [r1+32767]", "ld8 r2, [r10-32768]", "st4 [r0+0], -1", "st8 [r10-8], r2",
		"lddw r1, -9223372036854775808", "lddw r1, 9223372036854775807", "map r1, 9223372036854775807", "exit\nneg r1\n",
	}
}

func TestReadOfTurnedTexts(t *testing.T) { // P5.2, P5.3
	told := shapes()
	right := 0
	ask := func(s string) {
		if checkAsTold(t, told, s) {
			right++
		}
	}
	for _, s := range seeds() {
		ask(s)
		for i := range len(s) + 1 {
			for _, c := range []byte(" \n\t,+-[]r012345789xaegjlnsv\x00\xff") {
				ask(s[:i] + string([]byte{c}) + s[i:])
				if i < len(s) {
					ask(s[:i] + string([]byte{c}) + s[i+1:])
				}
			}
			for j := i + 1; j <= len(s); j++ {
				ask(s[:i] + s[j:])
			}
		}
	}
	if right < 1000 {
		t.Errorf("only %d texts that were turned are right", right)
	}
}

func TestReadOfTextIsTheCode(t *testing.T) { // P5.3
	rows, seed := table(), uint64(5)
	for range 2000 {
		var l []api.Inst
		var text string
		for range samples.Below(&seed, 40) + 1 {
			r := rows[samples.Below(&seed, len(rows))]
			l = append(l, r.l...)
			text += r.line + "\n"
		}
		checkText(t, l, text)
		checkRead(t, text, l)
		checkRead(t, strings.TrimSuffix(text, "\n"), l)
	}
}

func TestTextOfDrawnInstructionsIsRead(t *testing.T) { // P5.3
	seed, right := uint64(55), 0
	pick := func(l ...int) int { return l[samples.Below(&seed, len(l))] }
	for range 60000 {
		var l []api.Inst
		for range samples.Below(&seed, 3) + 1 {
			l = append(l, api.Inst{
				Op:  byte(pick(samples.Below(&seed, 256), samples.Below(&seed, 256), 0x18, 0, 0, 0x95)),
				Dst: byte(pick(0, 0, 1, 10, samples.Below(&seed, 256))),
				Src: byte(pick(0, 0, 1, 10, samples.Below(&seed, 12))),
				Off: int16(pick(0, 0, 1, -1, samples.Below(&seed, 1<<16))),
				Imm: int32(pick(0, 0, 1, -1, samples.Below(&seed, 1<<31))),
			})
		}
		if s, err := Text(l); err == api.OK {
			right++
			checkRead(t, s, l)
		} else if s != "" || err != api.EINVAL {
			t.Fatalf("Text(%v): %q, %d", l, s, err)
		}
	}
	if right < 500 {
		t.Errorf("only %d codes that were drawn have a text", right)
	}
}

func TestLinesAreAllUnlike(t *testing.T) { // P5.3
	byLine := map[string]row{}
	for _, r := range table() {
		if had, ok := byLine[r.line]; ok && !slices.Equal(had.l, r.l) {
			t.Errorf("%q stands for %v and %v", r.line, had.l, r.l)
		}
		byLine[r.line] = r
	}
}
