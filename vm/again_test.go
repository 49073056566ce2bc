package vm

import (
	"slices"

	"halberd/alu"
	"halberd/api"
	"halberd/isa"
	"halberd/objs"
	"halberd/owned"
	"halberd/ring"
)

// thing is a value told once more: nothing (its zero value), "num", "stack", "ctx", "obj", "slot", "rec" or "map".
type thing struct {
	what string
	num  uint64
	off  int64
	// no is the number of an object, a record or a map; of a slot its map's, and slot its own.
	no, slot int
}

func (x thing) points() bool {
	return slices.Contains([]string{"stack", "ctx", "obj", "slot", "rec"}, x.what)
}

// cell is a byte of the stack: nothing, a number's byte, or a piece of what its eight cells have together.
type cell struct {
	what  string
	b     byte
	piece thing
}

// again is a run told once more: step by step, each telling its trap.
type again struct {
	l     []api.Inst
	c     api.Context
	o     *owned.Owned
	r     *ring.Ring
	owner int

	at, steps int
	done      bool
	regs      [11]thing
	cells     [64]cell
	mine      []int
}

// runAgain is Run told once more; it turns the maps and the ring as Run must.
func runAgain(l []api.Inst, c api.Context, o *owned.Owned, r *ring.Ring, owner int) api.Result {
	maps := 0
	for o != nil {
		if _, ok := o.Def(maps); !ok {
			break
		}
		maps++
	}
	if isa.Check(l, maps) != api.OK || !objs.Right(c) {
		return api.Result{Trap: 7}
	}
	x := beginAgain(l, c, o, r, owner)
	for {
		if x.steps == 64 {
			x.drop()
			return api.Result{Trap: 6, Steps: 64}
		}
		if trap := x.step(); trap != 0 {
			x.drop()
			return api.Result{Trap: trap, Steps: x.steps}
		}
		if x.done {
			return api.Result{Ret: x.regs[0].num, Steps: x.steps}
		}
	}
}

func beginAgain(l []api.Inst, c api.Context, o *owned.Owned, r *ring.Ring, owner int) *again {
	x := &again{l: l, c: c, o: o, r: r, owner: owner}
	x.regs[1], x.regs[10] = thing{what: "ctx"}, thing{what: "stack"}
	return x
}

func (x *again) drop() {
	for _, id := range x.mine {
		x.r.Discard(id)
	}
}

// step does the next step, and tells its trap.
func (x *again) step() int {
	i := x.l[x.at]
	x.at++
	x.steps++
	second := thing{what: "num", num: uint64(int64(i.Imm))}
	switch class := i.Op & 7; class {
	case 0:
		n := uint64(uint32(i.Imm)) + uint64(uint32(x.l[x.at].Imm))<<32
		x.regs[i.Dst] = thing{what: "num", num: n}
		if i.Src == 1 {
			x.regs[i.Dst] = thing{what: "map", no: int(n)}
		}
		x.at++
	case 1:
		got, trap := x.load(x.regs[i.Src], int64(i.Off), sizeAgain(i.Op))
		if trap != 0 {
			return trap
		}
		x.regs[i.Dst] = got
	case 2:
		return x.store(x.regs[i.Dst], int64(i.Off), sizeAgain(i.Op), second)
	case 3:
		return x.store(x.regs[i.Dst], int64(i.Off), sizeAgain(i.Op), x.regs[i.Src])
	default:
		if i.Op&8 != 0 {
			second = x.regs[i.Src]
		}
		if class == 5 || class == 6 {
			return x.jump(i, second)
		}
		return x.operate(i, second)
	}
	return 0
}

func sizeAgain(op byte) int {
	return map[byte]int{0x00: 4, 0x08: 2, 0x10: 1, 0x18: 8}[op&0x18]
}

func (x *again) operate(i api.Inst, b thing) int {
	a, op, wide := x.regs[i.Dst], i.Op&0xF0, i.Op&7 == 7
	if op == 0xB0 {
		// A number, as what is written over may be anything.
		a = thing{what: "num"}
	}
	switch {
	case a.what == "" || b.what == "":
		return 1
	case op == 0xB0 && wide:
		x.regs[i.Dst] = b
	case op == 0x00 && wide && a.points() && b.what == "num":
		x.regs[i.Dst].off += int64(b.num)
	case op == 0x10 && wide && a.points() && b.what == "num":
		x.regs[i.Dst].off -= int64(b.num)
	case a.what != "num" || b.what != "num":
		return 3
	default:
		n, _ := alu.Do(op, wide, a.num, b.num)
		x.regs[i.Dst] = thing{what: "num", num: n}
	}
	return 0
}

func (x *again) jump(i api.Inst, b thing) int {
	switch i.Op {
	case 0x05:
		x.at += int(i.Off)
		return 0
	case 0x85:
		return x.call(int(i.Imm))
	case 0x95:
		return x.exit()
	}
	a, op, wide := x.regs[i.Dst], i.Op&0xF0, i.Op&7 == 5
	taken := false
	switch {
	case a.what == "" || b.what == "":
		return 1
	case a.what == "num" && b.what == "num":
		taken, _ = alu.Holds(op, wide, a.num, b.num)
	case (i.Op == 0x15 || i.Op == 0x55) && i.Imm == 0 && a.points():
		taken = i.Op == 0x55
	default:
		return 3
	}
	if taken {
		x.at += int(i.Off)
	}
	return 0
}

func (x *again) exit() int {
	switch {
	case x.regs[0].what == "":
		return 1
	case x.regs[0].what != "num":
		return 3
	case len(x.mine) > 0:
		return 5
	}
	x.done = true
	return 0
}

// load tells what n bytes have.
func (x *again) load(p thing, off int64, n int) (thing, int) {
	if p.what == "" {
		return thing{}, 1
	}
	if !p.points() {
		return thing{}, 3
	}
	off += p.off
	if p.what == "stack" {
		return x.loadCells(off, n)
	}
	if p.what == "ctx" {
		return x.loadWord(off, n)
	}
	var b []byte
	switch p.what {
	case "obj":
		for _, f := range x.c.Objs[p.no].F {
			for k := range 8 {
				b = append(b, byte(f>>(8*k)))
			}
		}
	case "slot", "rec":
		b = x.bytes(p)
	}
	if off < 0 || off > int64(len(b)) || int(off)+n > len(b) {
		return thing{}, 2
	}
	got := thing{what: "num"}
	for k := range n {
		got.num |= uint64(b[int(off)+k]) << (8 * k)
	}
	return got, 0
}

func (x *again) loadWord(off int64, n int) (thing, int) {
	for i := range 8 {
		if off != int64(8*i) || n != 8 {
			continue
		}
		num, place, ok := objs.Word(x.c, i)
		switch {
		case !ok:
			return thing{}, 2
		case place >= 0:
			return thing{what: "obj", no: place}, 0
		}
		return thing{what: "num", num: num}, 0
	}
	return thing{}, 2
}

// bytes tells those of a slot, or of a record of this run, themselves.
func (x *again) bytes(p thing) []byte {
	if p.what == "slot" {
		b, _ := x.o.Slot(p.no, p.slot)
		return b
	}
	if !slices.Contains(x.mine, p.no) {
		return nil
	}
	b, _ := x.r.Record(p.no)
	return b
}

func (x *again) loadCells(off int64, n int) (thing, int) {
	if off < -64 || off > int64(-n) {
		return thing{}, 2
	}
	got, trap := thing{what: "num"}, 0
	for k := range n {
		switch at := x.cells[int(off)+64+k]; at.what {
		case "piece":
			if n == 8 && off%8 == 0 {
				return at.piece, 0
			}
			return thing{}, 3
		case "":
			// A piece behind it would come first.
			trap = 1
		default:
			got.num += uint64(at.b) << (8 * k)
		}
	}
	if trap != 0 {
		return thing{}, trap
	}
	return got, 0
}

// lay lays a number's byte on a cell; of what had that cell no piece is left.
func (x *again) lay(at int, b byte) {
	if x.cells[at].what == "piece" {
		for k := range 8 {
			x.cells[at-at%8+k] = cell{}
		}
	}
	x.cells[at] = cell{what: "byte", b: b}
}

func (x *again) store(p thing, off int64, n int, v thing) int {
	switch {
	case p.what == "":
		return 1
	case !p.points():
		return 3
	case v.what == "":
		return 1
	case p.what == "ctx" || p.what == "obj":
		return 2
	case p.what != "stack" && v.what != "num":
		return 3
	}
	off += p.off
	if p.what == "stack" {
		return x.storeCells(off, n, v)
	}
	b := x.bytes(p)
	if off < 0 || off > int64(len(b)) || int(off)+n > len(b) {
		return 2
	}
	for k := range n {
		b[int(off)+k] = byte(v.num >> (8 * k))
	}
	return 0
}

func (x *again) storeCells(off int64, n int, v thing) int {
	if off < -64 || off > int64(-n) {
		return 2
	}
	if v.what != "num" && (n != 8 || off%8 != 0) {
		return 3
	}
	for k := range n {
		at := int(off) + 64 + k
		if v.what == "num" {
			x.lay(at, byte(v.num>>(8*k)))
		} else {
			x.cells[at] = cell{what: "piece", piece: v}
		}
	}
	return 0
}

// sign tells a helper's arguments and the kinds of maps that suit it by letters.
type sign struct{ args, maps string }

func signs() map[int]sign {
	return map[int]sign{
		1: {"mk", "ah"}, 2: {"mkvn", "ah"}, 3: {"mk", "h"}, 4: {"min", "i"}, 5: {"mtn", "t"}, 6: {"mi", "i"}, 7: {"mt", "t"},
		8: {"mc", "r"}, 9: {"R", ""}, 10: {"R", ""}, 11: {"", ""}, 12: {"ibc", ""}, 13: {"tn", ""},
	}
}

func (x *again) call(n int) int {
	s, ok := signs()[n]
	if !ok {
		return 4
	}
	for i, letter := range s.args {
		if x.regs[i+1].what == "" {
			return 1
		}
		if !x.fits(letter, s, i+1) {
			return 4
		}
	}
	got := x.help(n)
	for i := 1; i <= 5; i++ {
		x.regs[i] = thing{}
	}
	x.regs[0] = got
	return 0
}

func (x *again) fits(letter rune, s sign, reg int) bool {
	v := x.regs[reg]
	d, _ := x.o.Def(x.regs[1].no)
	switch letter {
	case 'm':
		return v.what == "map" && d.Kind > 0 && slices.Contains([]byte(s.maps), "?ahitr"[d.Kind])
	case 'k':
		return x.hasBytes(v, d.Key)
	case 'v':
		return x.hasBytes(v, d.Value)
	case 'n':
		return v.what == "num"
	case 'i', 't':
		return v.what == "obj" && v.off == 0 && x.c.Objs[v.no].Type == map[rune]int{'t': 1, 'i': 2}[letter]
	case 'c':
		return v.what == "num" && v.num > 0 && v.num < 33
	case 'b':
		next := x.regs[reg+1]
		return v.what == "stack" && next.what == "num" && next.num > 0 && next.num < 33 && v.off >= -64 && v.off <= -int64(next.num)
	}
	return v.what == "rec" && v.off == 0 && slices.Contains(x.mine, v.no)
}

func (x *again) hasBytes(v thing, n int) bool {
	if v.what != "stack" || v.off < -64 || v.off > int64(-n) {
		return false
	}
	return !slices.ContainsFunc(x.cells[v.off+64:][:n], func(c cell) bool { return c.what != "byte" })
}

// taken tells n bytes of the stack from an argument's on.
func (x *again) taken(reg, n int) []byte {
	var b []byte
	for _, c := range x.cells[x.regs[reg].off+64:][:n] {
		b = append(b, c.b)
	}
	return b
}

func (x *again) help(n int) thing {
	m := x.regs[1].no
	d, _ := x.o.Def(m)
	num := func(n int) thing { return thing{what: "num", num: uint64(int64(n))} }
	slot := func(k int, ok bool) thing {
		if ok {
			return thing{what: "slot", no: m, slot: k}
		}
		return num(0)
	}
	switch n {
	case 1:
		return slot(x.o.Lookup(m, x.taken(2, d.Key)))
	case 2:
		return num(-int(x.o.Update(m, x.taken(2, d.Key), x.taken(3, d.Value), x.regs[4].num)))
	case 3:
		return num(-int(x.o.Delete(m, x.taken(2, d.Key))))
	case 4, 5:
		k, err := x.o.Get(m, x.c.Objs[x.regs[2].no].Key, x.regs[3].num > 0)
		return slot(k, err == 0)
	case 6, 7:
		return num(-int(x.o.Drop(m, x.c.Objs[x.regs[2].no].Key)))
	}
	return x.helpOn(n, num)
}

// helpOn has the helpers without maps that have slots.
func (x *again) helpOn(n int, num func(n int) thing) thing {
	arg := x.regs[1].no
	switch n {
	case 8:
		id, ok := x.r.Reserve(x.owner, int(x.regs[2].num))
		if !ok {
			return num(0)
		}
		x.mine = append(x.mine, id)
		return thing{what: "rec", no: id}
	case 9, 10:
		x.mine = slices.DeleteFunc(x.mine, func(id int) bool { return id == arg })
		if n == 9 {
			x.r.Commit(arg)
		} else {
			x.r.Discard(arg)
		}
		return num(0)
	case 11:
		return thing{what: "num", num: x.c.Now}
	case 12:
		path, size := x.c.Objs[arg].Path, int(x.regs[3].num)
		for k := range size {
			b := byte(0)
			if k < len(path) {
				b = path[k]
			}
			x.lay(int(x.regs[2].off)+64+k, b)
		}
		return num(min(size, len(path)))
	}
	for _, up := range x.c.Objs[arg].Up {
		if up >= 0 && x.regs[2].num == uint64(up) {
			return num(1)
		}
	}
	return num(0)
}
