package asm

import (
	"strconv"
	"strings"

	"halberd/api"
	"halberd/inst"
)

// comma stands between each two parts of a line.
const comma = ", "

// line is an instruction, with its second one if it has one: n is the number of both, or Imm.
type line struct {
	api.Inst
	n int64
}

func (x line) text(w word) string {
	if len(w.parts) == 0 {
		return w.text
	}
	texts := make([]string, len(w.parts))
	for i, p := range w.parts {
		texts[i] = x.textOf(p, w.fromReg)
	}
	return w.text + " " + strings.Join(texts, comma)
}

func (x line) textOf(p part, fromReg bool) string {
	switch p {
	case dst:
		return regText(x.Dst)
	case operand:
		if fromReg {
			return regText(x.Src)
		}
	case count:
		must(x.n >= 0)
	case ahead:
		must(x.Off >= 0)
		return offText(x.Off)
	case source:
		return placeText(x.Src, x.Off)
	case target:
		return placeText(x.Dst, x.Off)
	}
	return strconv.FormatInt(x.n, 10)
}

func regText(r byte) string {
	return "r" + strconv.Itoa(int(r))
}

func offText(off int16) string {
	text := strconv.Itoa(int(off))
	if off < 0 {
		return text
	}
	return "+" + text
}

func placeText(r byte, off int16) string {
	return "[" + regText(r) + offText(off) + "]"
}

func (x *line) readParts(parts []part, text string) {
	texts := strings.Split(text, comma)
	must(len(texts) == len(parts))
	for i, p := range parts {
		x.readPart(p, texts[i])
	}
}

func (x *line) readPart(p part, text string) {
	switch p {
	case dst:
		x.Dst = readReg(text)
	case operand:
		x.readOperand(text)
	case number:
		x.n = readNumber(text, x.bits())
	case count:
		x.n = readCount(text, x.bits())
	case ahead:
		x.Off = readAhead(text)
	case source:
		x.Src, x.Off = readPlace(text)
	case target:
		x.Dst, x.Off = readPlace(text)
	}
}

func (x *line) readOperand(text string) {
	if strings.HasPrefix(text, "r") {
		x.Op = withReg(x.Op)
		x.Src = readReg(text)
		return
	}
	x.n = readNumber(text, x.bits())
}

func (x line) bits() int {
	if x.Op == api.LdWide {
		return wideBits
	}
	return immBits
}

func (x line) insts() []api.Inst {
	if x.Op == api.LdWide {
		pair := inst.Pair(x.Op, x.Dst, x.Src, uint64(x.n))
		return pair[:]
	}
	x.Imm = int32(x.n)
	return []api.Inst{x.Inst}
}

func readNumber(text string, bits int) int64 {
	n, err := strconv.ParseInt(text, 10, bits)
	// What wouldn't be written so again is none: a 0 ahead, -0, a +.
	must(err == nil && strconv.FormatInt(n, 10) == text)
	return n
}

func readCount(text string, bits int) int64 {
	n := readNumber(text, bits)
	must(n >= 0)
	return n
}

func readReg(text string) byte {
	digits, ok := strings.CutPrefix(text, "r")
	must(ok)
	n := readCount(digits, immBits)
	must(n <= stackReg)
	return byte(n)
}

func readAhead(text string) int16 {
	digits, ok := strings.CutPrefix(text, "+")
	must(ok)
	return int16(readCount(digits, offBits))
}

func readOff(text string) int16 {
	if strings.HasPrefix(text, "-") {
		return int16(readNumber(text, offBits))
	}
	return readAhead(text)
}

func readPlace(text string) (byte, int16) {
	inner, begins := strings.CutPrefix(text, "[")
	inner, ends := strings.CutSuffix(inner, "]")
	sign := strings.IndexAny(inner, "+-")
	must(begins && ends && sign >= 0)
	return readReg(inner[:sign]), readOff(inner[sign:])
}
