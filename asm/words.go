package asm

import (
	"strconv"

	"halberd/api"
	"halberd/isa"
)

// part is what stands behind a line's word, or behind one of its commas.
type part byte

const (
	dst     part = iota
	operand      // a number, or from a register Src
	number       // of 32 bits, or the wide one
	count        // a number from 0 on
	ahead        // Off of a jump
	source       // the place that is loaded from
	target       // the place that is stored to
)

// word is what a line begins with, and what stands behind it; from a register or not, it is the same text.
type word struct {
	text    string
	parts   []part
	fromReg bool
}

// named is a word of some opcodes, by the operation that they have in common.
type named struct {
	op   byte
	text string
}

func operations() []named {
	return []named{
		{api.Add, "add"}, {api.Sub, "sub"}, {api.Mul, "mul"}, {api.Div, "div"},
		{api.Or, "or"}, {api.And, "and"}, {api.Lsh, "lsh"}, {api.Rsh, "rsh"},
		{api.Mod, "mod"}, {api.Xor, "xor"}, {api.Mov, "mov"}, {api.Arsh, "arsh"},
	}
}

func conditions() []named {
	return []named{
		{api.Jeq, "jeq"}, {api.Jgt, "jgt"}, {api.Jge, "jge"}, {api.Jset, "jset"},
		{api.Jne, "jne"}, {api.Jsgt, "jsgt"}, {api.Jsge, "jsge"},
		{api.Jlt, "jlt"}, {api.Jle, "jle"}, {api.Jslt, "jslt"}, {api.Jsle, "jsle"},
	}
}

// wordOfMap stands beside the others: its opcode is that of lddw.
func wordOfMap() word {
	return word{text: "map", parts: []part{dst, count}}
}

func wordsByOpcodes() map[byte]word {
	words := map[byte]word{
		api.LdWide:                {text: "lddw", parts: []part{dst, number}},
		api.ClassAlu64 | api.Neg:  {text: "neg", parts: []part{dst}},
		api.ClassAlu | api.Neg:    {text: "neg32", parts: []part{dst}},
		api.ClassJmp | api.Ja:     {text: "ja", parts: []part{ahead}},
		api.ClassJmp | api.CallOp: {text: "call", parts: []part{count}},
		api.ClassJmp | api.Exit:   {text: "exit"},
	}
	for _, o := range operations() {
		addBoth(words, api.ClassAlu64|o.op, o.text, dst, operand)
		addBoth(words, api.ClassAlu|o.op, o.text+"32", dst, operand)
	}
	for _, c := range conditions() {
		addBoth(words, api.ClassJmp|c.op, c.text, dst, operand, ahead)
		addBoth(words, api.ClassJmp32|c.op, c.text+"32", dst, operand, ahead)
	}
	for op := range 256 {
		addMemory(words, byte(op))
	}
	return words
}

func addMemory(words map[byte]word, op byte) {
	size := isa.Size(op)
	if size == 0 {
		return
	}
	switch op & classBits {
	case api.ClassLdx:
		words[op] = word{text: "ld" + strconv.Itoa(size), parts: []part{dst, source}}
	case api.ClassSt:
		addBoth(words, op, "st"+strconv.Itoa(size), target, operand)
	}
}

// addBoth adds the word of an opcode whose operand is a number, and of the one that has it from a register.
func addBoth(words map[byte]word, op byte, text string, parts ...part) {
	words[op] = word{text: text, parts: parts}
	words[withReg(op)] = word{text: text, parts: parts, fromReg: true}
}

// withReg tells the opcode that has its operand from a register: of a store that is another class, as the bit is one of its size there.
func withReg(op byte) byte {
	if op&classBits == api.ClassSt {
		return op&^classBits | api.ClassStx
	}
	return op | api.FromReg
}

// start is what a line's word alone tells: an instruction without its operands, and the parts that are left to be read.
type start struct {
	x     api.Inst
	parts []part
}

// wordsByTexts leaves opcodes from a register to what is read behind the word.
func wordsByTexts() map[string]start {
	ofMap := wordOfMap()
	words := map[string]start{
		ofMap.text: {api.Inst{Op: api.LdWide, Src: mapNumber}, ofMap.parts},
	}
	for op, w := range wordsByOpcodes() {
		if !w.fromReg {
			words[w.text] = start{api.Inst{Op: op}, w.parts}
		}
	}
	return words
}
