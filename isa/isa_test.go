package isa

import (
	"math"
	"slices"
	"testing"

	"halberd/api"
	"halberd/samples"
)

// may is what the chapter lets some opcodes have, written out by numbers: the greatest Dst and Src, Off and Imm.
type may struct {
	name     string
	ops      []byte
	dst, src int
	off, imm bool
}

func allMay() []may {
	return []may{
		{"operation of 32 bits", []byte{0x04, 0x14, 0x24, 0x34, 0x44, 0x54, 0x64, 0x74, 0x94, 0xA4, 0xB4, 0xC4}, 9, 0, false, true},
		{"the same from a register", []byte{0x0C, 0x1C, 0x2C, 0x3C, 0x4C, 0x5C, 0x6C, 0x7C, 0x9C, 0xAC, 0xBC, 0xCC}, 9, 10, false, false},
		{"operation of 64 bits", []byte{0x07, 0x17, 0x27, 0x37, 0x47, 0x57, 0x67, 0x77, 0x97, 0xA7, 0xB7, 0xC7}, 9, 0, false, true},
		{"the same from a register", []byte{0x0F, 0x1F, 0x2F, 0x3F, 0x4F, 0x5F, 0x6F, 0x7F, 0x9F, 0xAF, 0xBF, 0xCF}, 9, 10, false, false},
		{"Neg", []byte{0x84, 0x87}, 9, 0, false, false},
		{"condition of 64 bits", conditions(0x05), 10, 0, true, true},
		{"the same from a register", conditions(0x0D), 10, 10, true, false},
		{"condition of 32 bits", conditions(0x06), 10, 0, true, true},
		{"the same from a register", conditions(0x0E), 10, 10, true, false},
		{"Ja", []byte{0x05}, 0, 0, true, false},
		{"Call", []byte{0x85}, 0, 0, false, true},
		{"Exit", []byte{0x95}, 0, 0, false, false},
		{"load", []byte{0x61, 0x69, 0x71, 0x79}, 9, 10, true, false},
		{"store of a number", []byte{0x62, 0x6A, 0x72, 0x7A}, 10, 0, true, true},
		{"store of a register", []byte{0x63, 0x6B, 0x73, 0x7B}, 10, 10, true, false},
		{"LdWide", []byte{0x18}, 9, 1, false, true},
	}
}

// conditions has the opcodes of all jumps with a condition; low is their class, and 8 if they are from a register.
func conditions(low byte) []byte {
	l := []byte{0x10, 0x20, 0x30, 0x40, 0x50, 0x60, 0x70, 0xA0, 0xB0, 0xC0, 0xD0}
	for i := range l {
		l[i] |= low
	}
	return l
}

// mayOf tells what an opcode may have; nothing and false, if there is no such one.
func mayOf(op byte) (may, bool) {
	for _, m := range allMay() {
		if slices.Contains(m.ops, op) {
			return m, true
		}
	}
	return may{}, false
}

func registers() []byte { return []byte{0, 1, 2, 8, 9, 10, 11, 12, 15, 16, 26, 128, 255} }

func offs() []int16 { return []int16{0, 1, 2, 8, 256, -1, -8, math.MaxInt16, math.MinInt16} }

func imms() []int32 {
	return []int32{0, 1, 5, 256, 65536, -1, -65536, math.MaxInt32, math.MinInt32}
}

// Instructions that the codes below are made of.
var (
	ret   = api.Inst{Op: 0x95}
	mov   = api.Inst{Op: 0xB7}
	wide0 = api.Inst{Op: 0x18}
	map0  = api.Inst{Op: 0x18, Src: 1}
	tail  = api.Inst{}
)

func ja(off int16) api.Inst { return api.Inst{Op: 0x05, Off: off} }

func numbered(x api.Inst, imm int32) api.Inst {
	x.Imm = imm
	return x
}

// code has n instructions, the last one an Exit.
func code(n int) []api.Inst {
	l := slices.Repeat([]api.Inst{mov}, n)
	l[n-1] = ret
	return l
}

func TestOpcodesAreSo(t *testing.T) { // P3.1, P3.2
	for _, c := range []struct {
		got, want int
	}{
		{api.ClassAlu64 | api.Mov, 0xB7},
		{api.ClassAlu | api.FromReg | api.Arsh, 0xCC},
		{api.ClassJmp | api.Exit, 0x95},
		{api.ClassJmp | api.CallOp, 0x85},
		{api.ClassJmp32 | api.FromReg | api.Jsle, 0xDE},
		{api.LdWide, 0x18},
	} {
		if c.got != c.want {
			t.Errorf("%#x, not %#x", c.got, c.want)
		}
	}
}

func TestRight(t *testing.T) { // P3.1
	for op := range 256 {
		m, there := mayOf(byte(op))
		for _, dst := range registers() {
			for _, src := range registers() {
				for _, off := range offs() {
					for _, imm := range imms() {
						x := api.Inst{Op: byte(op), Dst: dst, Src: src, Off: off, Imm: imm}
						want := there && int(dst) <= m.dst && int(src) <= m.src && (m.off || off == 0) && (m.imm || imm == 0)
						if Right(x) != want {
							t.Fatalf("Right(%+v) of %q: %v", x, m.name, !want)
						}
					}
				}
			}
		}
	}
}

func TestRightOfEachRegister(t *testing.T) { // P3.1
	for op := range 256 {
		m, there := mayOf(byte(op))
		for r := range 256 {
			if x := (api.Inst{Op: byte(op), Dst: byte(r)}); Right(x) != (there && r <= m.dst) {
				t.Errorf("Right(%+v) of %q: %v", x, m.name, Right(x))
			}
			if x := (api.Inst{Op: byte(op), Src: byte(r)}); Right(x) != (there && r <= m.src) {
				t.Errorf("Right(%+v) of %q: %v", x, m.name, Right(x))
			}
		}
	}
}

func TestRightByHand(t *testing.T) { // P3.1
	for _, c := range []struct {
		name string
		x    api.Inst
		want bool
	}{
		{"mov r0, 0", api.Inst{Op: 0xB7}, true},
		{"mov r10, 0", api.Inst{Op: 0xB7, Dst: 10}, false},
		{"mov r9, -1", api.Inst{Op: 0xB7, Dst: 9, Imm: -1}, true},
		{"mov r9, r10", api.Inst{Op: 0xBF, Dst: 9, Src: 10}, true},
		{"mov r10, r9", api.Inst{Op: 0xBF, Dst: 10, Src: 9}, false},
		{"mov r1, r11", api.Inst{Op: 0xBF, Dst: 1, Src: 11}, false},
		{"mov r1, r2 and a number", api.Inst{Op: 0xBF, Dst: 1, Src: 2, Imm: 1}, false},
		{"mov r1, 2 and a register", api.Inst{Op: 0xB7, Dst: 1, Src: 2, Imm: 2}, false},
		{"mov with Off", api.Inst{Op: 0xB7, Off: 1}, false},
		{"operation behind Arsh", api.Inst{Op: 0xD7}, false},
		{"neg r9", api.Inst{Op: 0x87, Dst: 9}, true},
		{"neg r10", api.Inst{Op: 0x87, Dst: 10}, false},
		{"neg with a number", api.Inst{Op: 0x87, Imm: 1}, false},
		{"neg32 with Src", api.Inst{Op: 0x84, Src: 1}, false},
		{"neg from a register", api.Inst{Op: 0x8F, Dst: 1, Src: 2}, false},
		{"neg32 from a register", api.Inst{Op: 0x8C}, false},
		{"jeq r10, r10, -1", api.Inst{Op: 0x1D, Dst: 10, Src: 10, Off: -1}, true},
		{"jeq r11, 0", api.Inst{Op: 0x15, Dst: 11}, false},
		{"jsle32 r10, -1, the farthest", api.Inst{Op: 0xD6, Dst: 10, Off: math.MaxInt16, Imm: -1}, true},
		{"jump behind Jsle", api.Inst{Op: 0xE5}, false},
		{"ja -1", api.Inst{Op: 0x05, Off: -1}, true},
		{"ja with a number", api.Inst{Op: 0x05, Off: 1, Imm: 1}, false},
		{"ja from a register", api.Inst{Op: 0x0D}, false},
		{"ja32", api.Inst{Op: 0x06}, false},
		{"call -1", api.Inst{Op: 0x85, Imm: -1}, true},
		{"call with Off", api.Inst{Op: 0x85, Imm: 1, Off: 1}, false},
		{"call from a register", api.Inst{Op: 0x8D}, false},
		{"call32", api.Inst{Op: 0x86}, false},
		{"exit", api.Inst{Op: 0x95}, true},
		{"exit 1", api.Inst{Op: 0x95, Imm: 1}, false},
		{"exit from a register", api.Inst{Op: 0x9D}, false},
		{"exit32", api.Inst{Op: 0x96}, false},
		{"ld8 r9, [r10-8]", api.Inst{Op: 0x79, Dst: 9, Src: 10, Off: -8}, true},
		{"ld8 r10, [r1]", api.Inst{Op: 0x79, Dst: 10, Src: 1}, false},
		{"ld8 r0, [r11]", api.Inst{Op: 0x79, Src: 11}, false},
		{"st1 [r10-1], 7", api.Inst{Op: 0x72, Dst: 10, Off: -1, Imm: 7}, true},
		{"st1 with Src", api.Inst{Op: 0x72, Dst: 10, Src: 1, Imm: 7}, false},
		{"st4 [r10-4], r10", api.Inst{Op: 0x63, Dst: 10, Src: 10, Off: -4}, true},
		{"st4 of a register with a number", api.Inst{Op: 0x63, Dst: 10, Src: 1, Imm: 1}, false},
		{"memory of class 0", api.Inst{Op: 0x60}, false},
		{"memory with another mode", api.Inst{Op: 0x41}, false},
		{"atomic", api.Inst{Op: 0xDB, Dst: 10}, false},
		{"lddw r9, -1", api.Inst{Op: 0x18, Dst: 9, Imm: -1}, true},
		{"lddw r10, 0", api.Inst{Op: 0x18, Dst: 10}, false},
		{"map r0, 3", api.Inst{Op: 0x18, Src: 1, Imm: 3}, true},
		{"lddw with Src 2", api.Inst{Op: 0x18, Src: 2}, false},
		{"lddw with Off", api.Inst{Op: 0x18, Off: 1}, false},
		{"a second one", api.Inst{Imm: 1}, false},
		{"a second one of zeros", api.Inst{}, false},
	} {
		if got := Right(c.x); got != c.want {
			t.Errorf("%s: Right(%+v): %v", c.name, c.x, got)
		}
	}
}

func TestCheckOfEachRightOne(t *testing.T) { // P3.1
	for _, m := range allMay() {
		for _, op := range m.ops {
			x := api.Inst{Op: op, Dst: byte(m.dst), Src: byte(m.src)}
			if m.imm && op != 0x18 {
				x.Imm = -1
			}
			l := []api.Inst{x, mov, ret}
			if op == 0x18 {
				l[1] = tail
			}
			if got := Check(l, 1); got != api.OK {
				t.Errorf("%s: Check(%+v): %d", m.name, l, got)
			}
		}
	}
}

func TestCheckOfEachWrongOne(t *testing.T) { // P3.1
	for op := range 256 {
		m, there := mayOf(byte(op))
		for _, at := range []int{0, 1, 62} {
			l := code(64)
			l[at] = api.Inst{Op: byte(op), Dst: byte(m.dst) + 1}
			if got := Check(l, 4); got != api.EINVAL {
				t.Errorf("Check with %+v at %d: %d", l[at], at, got)
			}
			l[at] = api.Inst{Op: byte(op), Src: byte(m.src) + 1}
			if got := Check(l, 4); got != api.EINVAL {
				t.Errorf("Check with %+v at %d: %d", l[at], at, got)
			}
			if l[at] = (api.Inst{Op: byte(op)}); !there {
				if got := Check(l, 4); got != api.EINVAL {
					t.Errorf("Check with %+v at %d: %d", l[at], at, got)
				}
			}
		}
	}
}

func TestCheckOfHowMany(t *testing.T) { // P3.1
	for n := 1; n <= 200; n++ {
		want := api.OK
		if n > 64 {
			want = api.EINVAL
		}
		if got := Check(code(n), 0); got != want {
			t.Errorf("Check of %d: %d", n, got)
		}
	}
	for name, l := range map[string][]api.Inst{
		"nil":            nil,
		"none":           {},
		"room alone":     code(4)[:0],
		"256 and one":    code(257),
		"65536 and more": code(65536 + 3),
	} {
		if got := Check(l, 0); got != api.EINVAL {
			t.Errorf("Check of %s: %d", name, got)
		}
	}
}

func TestCheckOfTheLastOne(t *testing.T) { // P3.1
	for _, m := range allMay() {
		for _, op := range m.ops {
			want := api.EINVAL
			if op == 0x95 {
				want = api.OK
			}
			for _, l := range [][]api.Inst{{{Op: op}}, {mov, {Op: op}}, append(code(63), api.Inst{Op: op})} {
				if got := Check(l, 4); got != want {
					t.Errorf("Check with %s (%#x) as the last of %d: %d", m.name, op, len(l), got)
				}
			}
		}
	}
	for name, l := range map[string][]api.Inst{
		"exit with Imm":       {mov, {Op: 0x95, Imm: 1}},
		"exit with Dst":       {mov, {Op: 0x95, Dst: 1}},
		"exit32":              {mov, {Op: 0x96}},
		"exit from register":  {mov, {Op: 0x9D}},
		"a second one":        {wide0, tail},
		"an exit in between":  {ret, mov},
		"spare room's exit":   code(3)[:2],
		"a first one":         {mov, wide0},
		"a map's first one":   {mov, map0},
		"a first one as exit": {wide0, ret},
	} {
		if got := Check(l, 4); got != api.EINVAL {
			t.Errorf("Check of %s: %d", name, got)
		}
	}
	if got := Check([]api.Inst{ret, mov, ret, ret}, 0); got != api.OK {
		t.Errorf("Check with exits in between: %d", got)
	}
}

func TestCheckOfTwoInstructions(t *testing.T) { // P3.1
	for name, l := range map[string][]api.Inst{
		"lddw":             {wide0, tail, ret},
		"any number":       {numbered(wide0, -1), numbered(tail, -1), ret},
		"the least number": {numbered(wide0, 0), numbered(tail, math.MinInt32), ret},
		"two of them":      {wide0, tail, wide0, numbered(tail, 3), ret},
		"into r9":          {{Op: 0x18, Dst: 9}, tail, ret},
		"62 and an exit":   append(slices.Repeat([]api.Inst{wide0, tail}, 31), ret),
	} {
		if got := Check(l, 0); got != api.OK {
			t.Errorf("Check of %s: %d", name, got)
		}
	}
	for name, l := range map[string][]api.Inst{
		"no second one":            {wide0, mov, ret},
		"an exit as second one":    {wide0, ret},
		"two first ones":           {wide0, wide0, tail, ret},
		"a second one alone":       {tail, ret},
		"behind another":           {mov, tail, ret},
		"two second ones":          {wide0, tail, tail, ret},
		"second one with Dst":      {wide0, {Dst: 1}, ret},
		"second one with Src":      {wide0, {Src: 1}, ret},
		"second one with Off":      {wide0, {Off: 1}, ret},
		"second one with Op":       {wide0, {Op: 0x18}, ret},
		"second one, another Op":   {wide0, {Op: 0x01}, ret},
		"into r10":                 {{Op: 0x18, Dst: 10}, tail, ret},
		"Src 2":                    {{Op: 0x18, Src: 2}, tail, ret},
		"Off":                      {{Op: 0x18, Off: 1}, tail, ret},
		"opcode beside it, 0x10":   {{Op: 0x10}, tail, ret},
		"opcode beside it, 0x38":   {{Op: 0x38}, tail, ret},
		"second one is the last":   {mov, wide0, tail},
		"65 of them in all":        append(slices.Repeat([]api.Inst{wide0, tail}, 32), ret),
		"a map without second one": {map0, mov, ret},
	} {
		if got := Check(l, 4); got != api.EINVAL {
			t.Errorf("Check of %s: %d", name, got)
		}
	}
}

func TestCheckOfMaps(t *testing.T) { // P3.1
	numbers := []int64{0, 1, 2, 3, 4, 5, 255, 256, math.MaxInt32, 1 << 31, 1<<32 - 1, 1 << 32, 1<<32 + 1, 1 << 33, 1<<40 + 2, math.MaxInt64, math.MinInt64, math.MinInt64 + 1, -1, -2, -1 << 32}
	howMany := []int{math.MinInt, math.MinInt + 1, math.MinInt32, -1 << 40, -256, -2, -1, 0, 1, 2, 3, 4, 5, 256, 1 << 32, 1<<32 + 1, 1<<32 + 2, math.MaxInt}
	for _, x := range numbers {
		l := []api.Inst{mov, numbered(map0, int32(x)), numbered(tail, int32(x>>32)), ret}
		for _, maps := range howMany {
			want := api.EINVAL
			if x >= 0 && x < int64(maps) {
				want = api.OK
			}
			if got := Check(l, maps); got != want {
				t.Errorf("Check of map %d of %d: %d", x, maps, got)
			}
		}
	}
}

func TestCheckAsksEachMap(t *testing.T) { // P3.1
	for at := 0; at < 62; at += 2 {
		l := append(slices.Repeat([]api.Inst{map0, tail}, 31), ret)
		l[at].Imm = 2
		if got := Check(l, 3); got != api.OK {
			t.Errorf("Check with map 2 of 3 at %d: %d", at, got)
		}
		if got := Check(l, 2); got != api.EINVAL {
			t.Errorf("Check with map 2 of 2 at %d: %d", at, got)
		}
		l[at].Src = 0
		if got := Check(l, 1); got != api.OK {
			t.Errorf("Check with a number at %d: %d", at, got)
		}
	}
}

func TestCheckWithoutMaps(t *testing.T) { // P3.1
	for _, maps := range []int{math.MinInt, -1, 0, 1, 4, 5, math.MaxInt} {
		for name, l := range map[string][]api.Inst{
			"mov r0, 0; exit": {mov, ret},
			"exit":            {ret},
			"a wide number":   {numbered(wide0, 100), numbered(tail, -1), ret},
		} {
			if got := Check(l, maps); got != api.OK {
				t.Errorf("Check of %s with %d maps: %d", name, maps, got)
			}
		}
	}
}

func TestCheckOfJumps(t *testing.T) { // P3.1
	for name, l := range map[string][]api.Inst{
		"ja +0":                 {ja(0), ret},
		"to the last one":       {ja(1), mov, ret},
		"behind a second one":   {ja(2), wide0, tail, ret},
		"onto a first one":      {ja(0), wide0, tail, ret},
		"out of MaxInsts":       append([]api.Inst{ja(62)}, code(63)...),
		"from behind an exit":   {ret, ja(0), ret},
		"over one with numbers": {ja(1), numbered(mov, -1), ret},
	} {
		if got := Check(l, 0); got != api.OK {
			t.Errorf("Check of %s: %d", name, got)
		}
	}
	for name, l := range map[string][]api.Inst{
		"ja -1; exit":            {ja(-1), ret},
		"back to the first":      {mov, ja(-2), ret},
		"onto the one ahead":     {mov, mov, ja(-3), ret},
		"back onto itself":       {mov, mov, mov, ja(-1), ret},
		"below the first":        {mov, ja(-3), ret},
		"far below the first":    {mov, ja(math.MinInt16), ret},
		"behind the last":        {ja(1), ret},
		"behind the last of 3":   {ja(2), mov, ret},
		"far behind":             {ja(math.MaxInt16), mov, ret},
		"behind MaxInsts":        append([]api.Inst{ja(63)}, code(63)...),
		"onto a second one":      {ja(1), wide0, tail, ret},
		"the last one":           {mov, ja(0)},
		"the last one, back":     {mov, ja(-1)},
		"with a register":        {{Op: 0x05, Dst: 1}, ret},
		"over a whole code":      {ja(256), ret},
		"back over a whole code": {mov, ja(-256), ret},
	} {
		if got := Check(l, 0); got != api.EINVAL {
			t.Errorf("Check of %s: %d", name, got)
		}
	}
}

// jumps has one of each jump's opcode.
func jumps() []byte {
	return slices.Concat([]byte{0x05}, conditions(0x05), conditions(0x06), conditions(0x0D), conditions(0x0E))
}

func TestCheckOfEachJump(t *testing.T) { // P3.1
	for _, op := range jumps() {
		for off := -10; off <= 10; off++ {
			l := []api.Inst{mov, mov, {Op: op, Off: int16(off)}, mov, wide0, tail, mov, ret}
			want := api.EINVAL
			if off >= 0 && off != 2 && off <= 4 {
				want = api.OK
			}
			if got := Check(l, 0); got != want {
				t.Errorf("Check of %#x with Off %d: %d", op, off, got)
			}
		}
	}
}

func TestCheckLetsOtherOffsBe(t *testing.T) { // P3.1
	for _, op := range []byte{0x61, 0x69, 0x71, 0x79, 0x62, 0x6A, 0x72, 0x7A, 0x63, 0x6B, 0x73, 0x7B} {
		for _, off := range offs() {
			if got := Check([]api.Inst{{Op: op, Off: off}, ret}, 0); got != api.OK {
				t.Errorf("Check of %#x with Off %d: %d", op, off, got)
			}
		}
	}
}

func TestCheckChangesNothing(t *testing.T) { // P3.1
	l := slices.Concat([]api.Inst{ja(2), numbered(map0, 1), numbered(tail, 7)}, code(8))
	kept := slices.Clone(l)
	for maps := -1; maps < 4; maps++ {
		Check(l[:5], maps)
		Check(l, maps)
	}
	for i := -1; i <= len(l); i++ {
		Second(l, i)
	}
	if !slices.Equal(l, kept) {
		t.Errorf("the code was turned: %v", l)
	}
}

func TestSize(t *testing.T) { // P3.2
	want := map[byte]int{
		0x61: 4, 0x69: 2, 0x71: 1, 0x79: 8,
		0x62: 4, 0x6A: 2, 0x72: 1, 0x7A: 8,
		0x63: 4, 0x6B: 2, 0x73: 1, 0x7B: 8,
	}
	for op := range 256 {
		if got := Size(byte(op)); got != want[byte(op)] {
			t.Errorf("Size(%#x): %d", op, got)
		}
	}
}

func TestIsJump(t *testing.T) { // P3.2
	l := jumps()
	if len(l) != 45 {
		t.Fatalf("%d jumps", len(l))
	}
	for op := range 256 {
		want := slices.Contains(l, byte(op))
		for _, x := range []api.Inst{{Op: byte(op)}, {Op: byte(op), Off: 3}, {Op: byte(op), Off: -1}} {
			if got := IsJump(x); got != want {
				t.Errorf("IsJump(%+v): %v", x, got)
			}
		}
	}
}

func TestIsJumpIsOfOpAlone(t *testing.T) { // P3.2
	for op := range 256 {
		bare := IsJump(api.Inst{Op: byte(op)})
		for _, x := range []api.Inst{{Dst: 10}, {Dst: 255}, {Src: 10}, {Src: 11}, {Off: math.MinInt16}, {Imm: -1}, {Dst: 1, Src: 2, Off: 3, Imm: 4}} {
			x.Op = byte(op)
			if got := IsJump(x); got != bare {
				t.Errorf("IsJump(%+v): %v", x, got)
			}
		}
	}
}

func TestSecond(t *testing.T) { // P3.2
	l := []api.Inst{mov, numbered(wide0, 5), numbered(tail, -1), tail, numbered(map0, 9), tail, mov, wide0, mov, wide0, wide0, tail, ret, wide0}
	want := []int{2, 5, 11}
	for i := -20; i <= len(l)+20; i++ {
		if got := Second(l, i); got != slices.Contains(want, i) {
			t.Errorf("Second at %d: %v", i, got)
		}
	}
}

func TestSecondOfWhatIsNotThere(t *testing.T) { // P3.2
	whole := []api.Inst{wide0, tail, wide0, tail}
	places := []int{math.MinInt, math.MinInt + 1, -1 << 32, -4, -1, 0, 3, 4, 1 << 32, 1<<32 + 1, math.MaxInt - 1, math.MaxInt}
	for _, i := range places {
		if Second(whole[:3], i) || Second(nil, i) || Second([]api.Inst{}, i) || Second([]api.Inst{tail}, i) {
			t.Errorf("Second at %d: yes", i)
		}
	}
	if Second(whole[:1], 1) || Second(nil, 1) {
		t.Error("Second behind the end: yes")
	}
}

func TestSecondIsOfARightOne(t *testing.T) { // P3.2
	for _, first := range []api.Inst{
		{}, {Op: 0x95}, {Op: 0xB7}, {Op: 0x10}, {Op: 0x08}, {Op: 0x1C}, {Op: 0x98}, {Op: 0x61}, {Op: 0x79},
		{Op: 0x18, Dst: 10}, {Op: 0x18, Dst: 255}, {Op: 0x18, Src: 2}, {Op: 0x18, Src: 255}, {Op: 0x18, Off: 1}, {Op: 0x18, Off: -1},
	} {
		if Second([]api.Inst{first, tail}, 1) {
			t.Errorf("Second behind %+v: yes", first)
		}
	}
	for _, first := range []api.Inst{
		{Op: 0x18}, {Op: 0x18, Dst: 9}, {Op: 0x18, Src: 1}, {Op: 0x18, Dst: 9, Src: 1, Imm: math.MinInt32}, {Op: 0x18, Imm: -1},
	} {
		for _, imm := range imms() {
			if !Second([]api.Inst{first, {Imm: imm}}, 1) {
				t.Errorf("Second of Imm %d behind %+v: no", imm, first)
			}
		}
		for _, x := range []api.Inst{
			{Op: 1}, {Op: 0x18}, {Op: 0x95}, {Op: 255}, {Dst: 1}, {Dst: 255}, {Src: 1}, {Src: 255}, {Off: 1}, {Off: -1}, {Off: math.MinInt16, Imm: 1},
		} {
			if Second([]api.Inst{first, x}, 1) {
				t.Errorf("Second of %+v behind %+v: yes", x, first)
			}
		}
	}
}

func TestSecondOfManyInstructions(t *testing.T) { // P3.2
	l := slices.Repeat([]api.Inst{wide0, tail}, 200)
	for i := range l {
		if got := Second(l, i); got != (i%2 == 1) {
			t.Errorf("Second at %d: %v", i, got)
		}
	}
}

// drawn is a code with many jumps and wide ones, of which some are well formed.
func drawn(seed *uint64) []api.Inst {
	n := 1 + samples.Below(seed, 64)
	if samples.Below(seed, 3) > 0 {
		n = 1 + n%8
	}
	l := code(n)
	for i := 0; i < n-1; i++ {
		switch samples.Below(seed, 6) {
		case 0, 1, 2:
			l[i] = api.Inst{Op: jumps()[samples.Below(seed, len(jumps()))], Off: int16(samples.Below(seed, n-i) - samples.Below(seed, 8)/7)}
		case 3:
			l[i] = numbered(api.Inst{Op: 0x18, Src: byte(samples.Below(seed, 2))}, int32(samples.Below(seed, 3)))
			l[i+1] = numbered(tail, int32(samples.Below(seed, 40)/39))
			i++
		case 4:
			l[i] = api.Inst{Op: byte(samples.Below(seed, 40) * 5)}
		}
	}
	return l
}

// nexts has the places to which a place goes, worked out from opcodes' numbers alone.
func nexts(l []api.Inst, i int) []int {
	x := l[i]
	switch {
	case x.Op == 0x95:
		return nil
	case x.Op == 0x18:
		return []int{i + 2}
	case x.Op == 0x05:
		return []int{i + 1 + int(x.Off)}
	case slices.Contains(jumps(), x.Op):
		return []int{i + 1, i + 1 + int(x.Off)}
	}
	return []int{i + 1}
}

// isRight goes by the chapter's own list, not by the package.
func isRight(x api.Inst) bool {
	m, there := mayOf(x.Op)
	return there && int(x.Dst) <= m.dst && int(x.Src) <= m.src && (m.off || x.Off == 0) && (m.imm || x.Imm == 0)
}

// isWell tells by the chapter's words whether a code is well formed, from its first instruction to its last one.
func isWell(l []api.Inst, maps int) bool {
	n := len(l)
	if n < 1 || n > 64 || l[n-1] != ret {
		return false
	}
	second := make([]bool, n)
	for i := 0; i < n; i++ {
		if !isRight(l[i]) {
			return false
		}
		if l[i].Op != 0x18 {
			continue
		}
		if i+1 == n || l[i+1].Op != 0 || l[i+1].Dst != 0 || l[i+1].Src != 0 || l[i+1].Off != 0 {
			return false
		}
		if whole := uint64(l[i+1].Imm)<<32 + uint64(uint32(l[i].Imm)); l[i].Src == 1 && (maps < 0 || whole >= uint64(maps)) {
			return false
		}
		i++
		second[i] = true
	}
	for i, x := range l {
		if !second[i] && slices.Contains(jumps(), x.Op) {
			if to := i + 1 + int(x.Off); x.Off < 0 || to >= n || second[to] {
				return false
			}
		}
	}
	return true
}

func TestCheckOfDrawnCodes(t *testing.T) { // P3.1
	seed := uint64(3)
	well, ill := 0, 0
	for range 60000 {
		l := drawn(&seed)
		maps := samples.Below(&seed, 5) - 1
		want := api.EINVAL
		if isWell(l, maps) {
			want = api.OK
			well++
		} else {
			ill++
		}
		if got := Check(l, maps); got != want {
			t.Fatalf("Check(%+v, %d): %d", l, maps, got)
		}
	}
	if well < 2000 || ill < 2000 {
		t.Errorf("%d are well formed, %d not: too few of one kind", well, ill)
	}
}

func TestOnlyLaterPlacesAreGoneTo(t *testing.T) { // P3.3
	seed := uint64(7)
	long, wide := 0, 0
	for range 60000 {
		l := drawn(&seed)
		if Check(l, 2) != api.OK {
			continue
		}
		if len(l) > 8 {
			long++
		}
		for i := range l {
			if Second(l, i) {
				wide++
				continue
			}
			ended := len(nexts(l, i)) == 0
			if ended != (l[i] == ret) {
				t.Fatalf("%+v ends at %d", l, i)
			}
			for _, to := range nexts(l, i) {
				if to <= i || to >= len(l) || Second(l, to) {
					t.Fatalf("%+v goes from %d to %d", l, i, to)
				}
			}
		}
	}
	if long < 100 || wide < 100 {
		t.Errorf("%d long codes, %d wide instructions: too few", long, wide)
	}
}

// longest is the greatest number of steps from each place to an Exit; it asks for codes that only go to later places.
func longest(l []api.Inst) []int {
	steps := make([]int, len(l))
	for i := len(l) - 1; i >= 0; i-- {
		steps[i] = 1
		for _, to := range nexts(l, i) {
			steps[i] = max(steps[i], 1+steps[to])
		}
	}
	return steps
}

func TestAtMostMaxInstsSteps(t *testing.T) { // P3.3
	for _, l := range [][]api.Inst{
		{ret},
		code(64),
		append(slices.Repeat([]api.Inst{ja(0)}, 63), ret),
		append(slices.Repeat([]api.Inst{{Op: 0x15, Off: 0}}, 63), ret),
		append(slices.Repeat([]api.Inst{wide0, tail}, 31), ret),
		{ja(1), ret, ja(0), ret},
	} {
		if got := Check(l, 0); got != api.OK {
			t.Fatalf("Check(%+v): %d", l, got)
		}
		for i, n := range longest(l) {
			if !Second(l, i) && n > api.MaxInsts {
				t.Errorf("%+v: %d steps from %d", l, n, i)
			}
		}
	}
}
