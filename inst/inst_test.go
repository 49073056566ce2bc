package inst

import (
	"bytes"
	"encoding/binary"
	"math"
	"slices"
	"testing"

	"halberd/api"
)

const ones = ^uint64(0)

// pair is an instruction, and its bytes.
type pair struct {
	x api.Inst
	b []byte
}

// pairs has the chapter's example, each field alone at its ends, and some with all fields.
func pairs() []pair {
	return []pair{
		{api.Inst{Op: 183, Dst: 1, Imm: 5}, []byte{183, 1, 0, 0, 5, 0, 0, 0}},
		{api.Inst{}, []byte{0, 0, 0, 0, 0, 0, 0, 0}},
		{api.Inst{Op: 255}, []byte{255, 0, 0, 0, 0, 0, 0, 0}},
		{api.Inst{Op: 0x95}, []byte{0x95, 0, 0, 0, 0, 0, 0, 0}},
		{api.Inst{Dst: 15}, []byte{0, 15, 0, 0, 0, 0, 0, 0}},
		{api.Inst{Src: 15}, []byte{0, 240, 0, 0, 0, 0, 0, 0}},
		{api.Inst{Dst: 10, Src: 1}, []byte{0, 0x1A, 0, 0, 0, 0, 0, 0}},
		{api.Inst{Dst: 15, Src: 15}, []byte{0, 255, 0, 0, 0, 0, 0, 0}},
		{api.Inst{Off: 1}, []byte{0, 0, 1, 0, 0, 0, 0, 0}},
		{api.Inst{Off: 0x1234}, []byte{0, 0, 0x34, 0x12, 0, 0, 0, 0}},
		{api.Inst{Off: -1}, []byte{0, 0, 255, 255, 0, 0, 0, 0}},
		{api.Inst{Off: -8}, []byte{0, 0, 248, 255, 0, 0, 0, 0}},
		{api.Inst{Off: math.MaxInt16}, []byte{0, 0, 255, 127, 0, 0, 0, 0}},
		{api.Inst{Off: math.MinInt16}, []byte{0, 0, 0, 128, 0, 0, 0, 0}},
		{api.Inst{Imm: 0x12345678}, []byte{0, 0, 0, 0, 0x78, 0x56, 0x34, 0x12}},
		{api.Inst{Imm: -1}, []byte{0, 0, 0, 0, 255, 255, 255, 255}},
		{api.Inst{Imm: -2}, []byte{0, 0, 0, 0, 254, 255, 255, 255}},
		{api.Inst{Imm: math.MaxInt32}, []byte{0, 0, 0, 0, 255, 255, 255, 127}},
		{api.Inst{Imm: math.MinInt32}, []byte{0, 0, 0, 0, 0, 0, 0, 128}},
		{api.Inst{Op: 0x7B, Dst: 10, Src: 2, Off: -8}, []byte{0x7B, 0x2A, 0xF8, 0xFF, 0, 0, 0, 0}},
		{api.Inst{Op: 1, Dst: 3, Src: 2, Off: 0x0605, Imm: 0x0A090807}, []byte{1, 0x23, 5, 6, 7, 8, 9, 10}},
		{api.Inst{Op: 255, Dst: 15, Src: 15, Off: -1, Imm: -1}, bytes.Repeat([]byte{255}, 8)},
	}
}

// mixed tells n bytes that follow no plain pattern: the same ones each time for the same seed.
func mixed(n int, seed uint64) []byte {
	b := make([]byte, n)
	for i := range b {
		seed = seed*6364136223846793005 + 1442695040888963407
		b[i] = byte(seed >> 56)
	}
	return b
}

// code tells n instructions, whose fields are made apart from the package's own ways.
func code(n int, seed uint64) []api.Inst {
	b := mixed(9*n, seed)
	l := make([]api.Inst, n)
	for i := range l {
		p := b[9*i:]
		l[i] = api.Inst{Op: p[0], Dst: p[1] % 16, Src: p[2] % 16, Off: int16(binary.LittleEndian.Uint16(p[3:])), Imm: int32(binary.LittleEndian.Uint32(p[5:]))}
	}
	return l
}

// numbers has those about each power of two, and some whose bytes are all unlike.
func numbers() []uint64 {
	l := []uint64{0, ones, 0x1122334455667788, 0xF0E1D2C3B4A59687, 0x80FF7F0180FF7F01, 0x7FFFFFFF80000000, 0x80000000FFFFFFFF}
	for i := range 64 {
		p := uint64(1) << i
		l = append(l, p, p-1, p+1, ^p, -p)
	}
	return l
}

func TestBytesOfOne(t *testing.T) { // P2.1
	for _, c := range pairs() {
		if got := Bytes([]api.Inst{c.x}); !bytes.Equal(got, c.b) {
			t.Errorf("Bytes(%v): %v, not %v", c.x, got, c.b)
		}
	}
}

func TestReadOfOne(t *testing.T) { // P2.1
	for _, c := range pairs() {
		if got, err := Read(c.b); err != api.OK || !slices.Equal(got, []api.Inst{c.x}) {
			t.Errorf("Read(%v): %v, %d, not %v", c.b, got, err, c.x)
		}
	}
}

func TestBytesHasFourBitsOfRegisters(t *testing.T) { // P2.1
	for dst := range 256 {
		for src := range 256 {
			x := api.Inst{Op: 7, Dst: byte(dst), Src: byte(src), Off: 8, Imm: 9}
			want := []byte{7, byte(dst%16 + src%16*16), 8, 0, 9, 0, 0, 0}
			if got := Bytes([]api.Inst{x}); !bytes.Equal(got, want) {
				t.Fatalf("Bytes(%v): %v, not %v", x, got, want)
			}
		}
	}
}

func TestReadOfRegisters(t *testing.T) { // P2.1
	for dst := range 16 {
		for src := range 16 {
			b := []byte{7, byte(dst + 16*src), 8, 0, 9, 0, 0, 0}
			want := api.Inst{Op: 7, Dst: byte(dst), Src: byte(src), Off: 8, Imm: 9}
			if got, err := Read(b); err != api.OK || !slices.Equal(got, []api.Inst{want}) {
				t.Errorf("Read(%v): %v, %d, not %v", b, got, err, want)
			}
		}
	}
}

func TestManyInOrder(t *testing.T) { // P2.1
	var l []api.Inst
	var b []byte
	for _, c := range pairs() {
		l = append(l, c.x)
		b = append(b, c.b...)
	}
	if got := Bytes(l); !bytes.Equal(got, b) {
		t.Errorf("Bytes: %v, not %v", got, b)
	}
	if got, err := Read(b); err != api.OK || !slices.Equal(got, l) {
		t.Errorf("Read: %v, %d, not %v", got, err, l)
	}
}

func TestBytesOfNone(t *testing.T) { // P2.1
	for _, l := range [][]api.Inst{nil, {}, make([]api.Inst, 0, 3)} {
		if got := Bytes(l); len(got) != 0 {
			t.Errorf("Bytes of none: %v", got)
		}
	}
}

func TestBytesOfMoreThanACode(t *testing.T) { // P2.1
	for _, n := range []int{api.MaxInsts, api.MaxInsts + 1, 1000} {
		l := code(n, 3)
		got := Bytes(l)
		if len(got) != 8*n {
			t.Fatalf("Bytes of %d: %d of them", n, len(got))
		}
		for i, x := range l {
			if one := Bytes([]api.Inst{x}); !bytes.Equal(got[8*i:8*i+8], one) {
				t.Errorf("Bytes of %d: at %d %v, not %v", n, i, got[8*i:8*i+8], one)
			}
		}
	}
}

func TestReadOfHowMany(t *testing.T) { // P2.1
	for n := range 8*api.MaxInsts + 40 {
		got, err := Read(mixed(n, 5))
		if n > 0 && n%8 == 0 && n <= 8*64 {
			if err != api.OK || len(got) != n/8 {
				t.Errorf("Read of %d bytes: %d, %d", n, len(got), err)
			}
		} else if err != api.EINVAL || len(got) != 0 {
			t.Errorf("Read of %d bytes: %v, %d", n, got, err)
		}
	}
}

func TestReadOfWrongBytes(t *testing.T) { // P2.1
	for name, b := range map[string][]byte{
		"nil":                     nil,
		"none":                    {},
		"room alone":              make([]byte, 0, 8),
		"one byte":                {183},
		"one less":                {183, 1, 0, 0, 5, 0, 0},
		"one more":                {183, 1, 0, 0, 5, 0, 0, 0, 0},
		"the greatest and a byte": make([]byte, 8*api.MaxInsts+1),
		"one too many":            make([]byte, 8*(api.MaxInsts+1)),
		"far too many":            make([]byte, 8*256*256),
		"256 and one":             make([]byte, 8*257),
	} {
		if got, err := Read(b); err != api.EINVAL || len(got) != 0 {
			t.Errorf("Read of %s: %v, %d", name, got, err)
		}
	}
}

func TestSpareRoomIsNotRead(t *testing.T) { // P2.1
	whole := mixed(64, 7)
	kept := bytes.Clone(whole)
	if got, err := Read(whole[:7]); err != api.EINVAL || len(got) != 0 {
		t.Errorf("Read of 7 bytes with more behind them: %v, %d", got, err)
	}
	if got, err := Read(whole[:16]); err != api.OK || len(got) != 2 {
		t.Errorf("Read of 16 bytes with more behind them: %v, %d", got, err)
	}
	if !bytes.Equal(whole, kept) {
		t.Errorf("Read has turned bytes: %v", whole)
	}
}

func TestAnswersAreNewMemory(t *testing.T) { // P2.1
	l := code(3, 11)
	kept := slices.Clone(l)
	b, again := Bytes(l), Bytes(l)
	clear(again[:cap(again)])
	if want := Bytes(kept); !slices.Equal(l, kept) || !bytes.Equal(b, want) {
		t.Errorf("Bytes: %v of %v", b, l)
	}
	got, _ := Read(b)
	other, _ := Read(b)
	clear(other[:cap(other)])
	clear(b)
	if !slices.Equal(got, kept) {
		t.Errorf("Read: %v, not %v", got, kept)
	}
}

func TestWide(t *testing.T) { // P2.2
	for _, c := range []struct {
		low, high int32
		want      uint64
	}{
		{0, 0, 0},
		{5, 0, 5},
		{0, 5, 5 << 32},
		{0x55667788, 0x11223344, 0x1122334455667788},
		{-1, 0, 1<<32 - 1},
		{0, -1, 0xFFFFFFFF00000000},
		{-1, -1, ones},
		{math.MinInt32, 0, 1 << 31},
		{0, math.MinInt32, 1 << 63},
		{math.MinInt32, 1, 0x180000000},
		{math.MaxInt32, math.MaxInt32, 0x7FFFFFFF7FFFFFFF},
		{-2, 7, 0x7FFFFFFFE},
	} {
		if got := Wide(api.Inst{Imm: c.low}, api.Inst{Imm: c.high}); got != c.want {
			t.Errorf("Wide(%d, %d): %#x, not %#x", c.low, c.high, got, c.want)
		}
	}
}

func TestWideIsOfImmAlone(t *testing.T) { // P2.2
	a := api.Inst{Op: 255, Dst: 255, Src: 255, Off: -1, Imm: 3}
	b := api.Inst{Op: 24, Dst: 7, Src: 1, Off: 9, Imm: 4}
	if got := Wide(a, b); got != 4<<32+3 {
		t.Errorf("Wide: %#x", got)
	}
}

func TestPair(t *testing.T) { // P2.2
	for _, c := range []struct {
		op, dst, src byte
		x            uint64
		low, high    int32
	}{
		{api.LdWide, 3, 0, 0x1122334455667788, 0x55667788, 0x11223344},
		{api.LdWide, 0, 1, 2, 2, 0},
		{0, 0, 0, 0, 0, 0},
		{1, 2, 3, ones, -1, -1},
		{24, 15, 15, 1<<32 - 1, -1, 0},
		{24, 9, 0, 1 << 31, math.MinInt32, 0},
		{24, 9, 0, 1<<31 - 1, math.MaxInt32, 0},
		{24, 9, 0, 1 << 32, 0, 1},
		{24, 9, 0, 1 << 63, 0, math.MinInt32},
		{24, 9, 0, 1<<63 - 1, -1, math.MaxInt32},
		{255, 16, 255, 7, 7, 0},
	} {
		want := [2]api.Inst{{Op: c.op, Dst: c.dst, Src: c.src, Imm: c.low}, {Imm: c.high}}
		if got := Pair(c.op, c.dst, c.src, c.x); got != want {
			t.Errorf("Pair(%d, %d, %d, %#x): %v, not %v", c.op, c.dst, c.src, c.x, got, want)
		}
	}
}

func TestPairHasItsNumber(t *testing.T) { // P2.2
	for _, x := range numbers() {
		p := Pair(api.LdWide, 4, 1, x)
		if got := Wide(p[0], p[1]); got != x {
			t.Errorf("Wide of Pair of %#x: %#x", x, got)
		}
		b := Bytes(p[:])
		got := uint64(binary.LittleEndian.Uint32(b[4:])) | uint64(binary.LittleEndian.Uint32(b[12:]))<<32
		if got != x || b[0] != api.LdWide || b[1] != 0x14 {
			t.Errorf("Bytes of Pair of %#x: %v", x, b)
		}
		p[0].Imm, p[1].Imm = 0, 0
		if p != [2]api.Inst{{Op: api.LdWide, Dst: 4, Src: 1}, {}} {
			t.Errorf("Pair of %#x: %v beside its number", x, p)
		}
	}
}

func TestACodeIsReadFromItsBytes(t *testing.T) { // P2.3
	for n := 1; n <= api.MaxInsts; n++ {
		for seed := range uint64(20) {
			l := code(n, seed)
			if got, err := Read(Bytes(l)); err != api.OK || !slices.Equal(got, l) {
				t.Fatalf("Read of Bytes of %v: %v, %d", l, got, err)
			}
		}
	}
}

func TestBytesAreThoseOfWhatWasRead(t *testing.T) { // P2.3
	for n := 1; n <= api.MaxInsts; n++ {
		for seed := range uint64(20) {
			b := mixed(8*n, seed)
			l, err := Read(b)
			if got := Bytes(l); err != api.OK || !bytes.Equal(got, b) {
				t.Fatalf("Bytes of Read of %v: %v, %d", b, got, err)
			}
		}
	}
}

func TestEachByteGoesThere(t *testing.T) { // P2.3
	for at := range 24 {
		for v := range 256 {
			b := make([]byte, 24)
			b[at] = byte(v)
			l, err := Read(b)
			if got := Bytes(l); err != api.OK || !bytes.Equal(got, b) {
				t.Fatalf("Bytes of Read of %v: %v, %d", b, got, err)
			}
			if v > 0 && (l[at/8] == api.Inst{}) {
				t.Errorf("byte %d of %d is not in instruction %d: %v", at, v, at/8, l)
			}
		}
	}
}
