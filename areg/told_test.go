package areg_test

import (
	"slices"

	"halberd/api"
	"halberd/narrow"
	"halberd/num"
	"halberd/samples"
	"halberd/steps"
	"halberd/xfer"
)

// cell is a byte of the stack: it may have a value, and be a piece of what fills it and the seven beside it.
type cell struct {
	have  bool
	piece api.Abs
}

// told is what is known, told once more: the stack goes byte by byte, and what a pointer may point to offset by offset. Refusals are told by false, whatever was changed ahead of them.
type told struct {
	regs  [11]api.Abs
	cells [64]cell
	held  []int
	next  int
	hook  int
	defs  []api.MapDef
}

func toldOf(s api.AState, hook int, defs []api.MapDef) *told {
	k := &told{regs: s.Regs, held: slices.Clone(s.Held), next: s.Next, hook: hook, defs: defs}
	for at := range k.cells {
		k.cells[at] = cell{have: s.Places[at/8].Have[at%8], piece: s.Places[at/8].V}
	}
	return k
}

func (k *told) state() api.AState {
	s := api.AState{Regs: k.regs, Held: k.held, Next: k.next}
	for at, c := range k.cells {
		s.Places[at/8].V = c.piece
		s.Places[at/8].Have[at%8] = c.have
	}
	return s
}

func isPointer(v api.Abs) bool { return v.Kind >= api.AbsStack && v.Kind <= api.AbsRecord }

// known tells a number.
func known(x api.Num) api.Abs { return api.Abs{Kind: api.AbsNum, Num: x} }

// bytesOf tells a number of n bytes.
func bytesOf(n int) api.Abs {
	return known(map[int]api.Num{1: num.Bounds(0, 255), 2: num.Bounds(0, 65535), 4: num.Bounds(0, 4294967295), 8: num.All()}[n])
}

func sizeOf(op byte) int {
	return map[byte]int{0x00: 4, 0x08: 2, 0x10: 1, 0x18: 8}[op&0x18]
}

// operand tells the second one.
func (k *told) operand(i api.Inst) api.Abs {
	if i.Op&8 != 0 {
		return k.regs[i.Src]
	}
	return known(num.Const(uint64(int64(i.Imm))))
}

// do tells an instruction that neither ends nor jumps; more is the second one of two.
func (k *told) do(i, more api.Inst) bool {
	switch i.Op & 7 {
	case 0:
		n := uint64(uint32(i.Imm)) + uint64(uint32(more.Imm))<<32
		k.regs[i.Dst] = known(num.Const(n))
		if i.Src == 1 {
			k.regs[i.Dst] = api.Abs{Kind: api.AbsMap, What: int(n)}
		}
		return true
	case 1:
		return k.load(i, k.regs[i.Src], int(i.Off), sizeOf(i.Op))
	case 2:
		return k.store(k.regs[i.Dst], int(i.Off), sizeOf(i.Op), k.operand(api.Inst{Imm: i.Imm}))
	case 3:
		return k.store(k.regs[i.Dst], int(i.Off), sizeOf(i.Op), k.regs[i.Src])
	case 5:
		return k.call(int(i.Imm))
	}
	return k.operate(i)
}

func (k *told) operate(i api.Inst) bool {
	a, b, op, wide := k.regs[i.Dst], k.operand(i), i.Op&0xF0, i.Op&7 == 7
	switch {
	case op == 0xB0 && b.Kind == api.AbsNone:
		return false
	case op == 0xB0 && wide:
		k.regs[i.Dst] = b
		return true
	case op <= 0x10 && wide && isPointer(a):
		return k.move(i.Dst, b, 1-2*int64(op>>4))
	case a.Kind != api.AbsNum && op != 0xB0:
		return false
	case b.Kind != api.AbsNum && op != 0x80:
		return false
	}
	x, _ := xfer.Do(op, wide, a.Num, b.Num)
	k.regs[i.Dst] = known(x)
	return true
}

// move moves a register's pointer up, with a sign of 1, or down, with one of -1.
func (k *told) move(reg byte, by api.Abs, sign int64) bool {
	v := &k.regs[reg]
	if by.Kind != api.AbsNum || v.Null {
		return false
	}
	least, most := by.Num.ULo, by.Num.UHi
	if by.Num.Bits.Mask == 0 {
		c := int64(by.Num.Bits.Value)
		if c < -4096 || c > 4096 {
			return false
		}
		least, most = uint64(sign*c), uint64(sign*c)
	} else if sign < 0 || most > 4096 || v.Kind != api.AbsSlot && v.Kind != api.AbsRecord {
		return false
	}
	v.Lo += int(int64(least))
	v.Hi += int(int64(most))
	return v.Lo >= -4096 && v.Lo <= 4096 && v.Hi >= -4096 && v.Hi <= 4096
}

// there asks each byte from each offset on.
func there(v api.Abs, off, n, size int) bool {
	for at := v.Lo + off; at <= v.Hi+off; at++ {
		for b := range n {
			if at+b < 0 || at+b >= size {
				return false
			}
		}
	}
	return true
}

// size tells how many bytes something has that isn't the stack or the context.
func (k *told) size(v api.Abs) int {
	switch {
	case v.Kind == api.AbsObj:
		return 64
	case v.Kind == api.AbsSlot && v.What >= 0 && v.What < len(k.defs):
		return k.defs[v.What].Value
	case v.Kind == api.AbsRecord && slices.Contains(k.held, v.Id):
		return v.What
	}
	return 0
}

func (k *told) load(i api.Inst, p api.Abs, off, n int) bool {
	if p.Null {
		return false
	}
	switch p.Kind {
	case api.AbsStack:
		return k.loadCells(i.Dst, p.Lo+off+64, n)
	case api.AbsCtx:
		return k.loadWord(i.Dst, p, off, n)
	case api.AbsObj, api.AbsSlot, api.AbsRecord:
		k.regs[i.Dst] = bytesOf(n)
		return there(p, off, n, k.size(p))
	}
	return false
}

func (k *told) loadCells(reg byte, at, n int) bool {
	if at < 0 || at+n > 64 {
		return false
	}
	if piece := k.cells[at].piece; n == 8 && at%8 == 0 && piece.Kind != api.AbsNone {
		k.regs[reg] = piece
		return true
	}
	for b := range n {
		if c := k.cells[at+b]; !c.have || c.piece.Kind > api.AbsNum {
			return false
		}
	}
	k.regs[reg] = bytesOf(n)
	return true
}

func (k *told) loadWord(reg byte, p api.Abs, off, n int) bool {
	for w, letter := range samples.Shapes()[k.hook] {
		if n != 8 || p.Lo != p.Hi || p.Lo+off != 8*w || letter == '-' {
			continue
		}
		v := known(num.All())
		if letter != 'n' {
			v = api.Abs{Kind: api.AbsObj, What: map[rune]int{'T': 1, 'I': 2, 'i': 2}[letter], Null: letter == 'i', Id: k.next}
			k.next++
		}
		k.regs[reg] = v
		return true
	}
	return false
}

func (k *told) store(p api.Abs, off, n int, v api.Abs) bool {
	if p.Null || v.Kind == api.AbsNone {
		return false
	}
	switch p.Kind {
	case api.AbsStack:
		return k.storeCells(p.Lo+off+64, n, v)
	case api.AbsSlot, api.AbsRecord:
		return v.Kind == api.AbsNum && there(p, off, n, k.size(p))
	}
	return false
}

func (k *told) storeCells(at, n int, v api.Abs) bool {
	whole := n == 8 && at%8 == 0
	if at < 0 || at+n > 64 || v.Kind != api.AbsNum && !whole {
		return false
	}
	k.lay(at, n)
	if whole {
		k.fill(at, v)
	}
	return true
}

// lay gives n bytes values, one behind the other.
func (k *told) lay(at, n int) {
	for b := at; b < at+n; b++ {
		first := b - b%8
		for c := first; c < first+8; c++ {
			k.cells[c] = cell{have: k.cells[c].have && k.cells[c].piece.Kind <= api.AbsNum}
		}
		k.cells[b].have = true
	}
}

func (k *told) fill(at int, v api.Abs) {
	for b := at; b < at+8; b++ {
		k.cells[b] = cell{have: v.Kind == api.AbsNum, piece: v}
	}
}

// each makes something else of all that have an Id.
func (k *told) each(id int, become api.Abs, only func(v *api.Abs)) {
	is := func(v api.Abs) bool { return v.Kind >= api.AbsObj && v.Kind <= api.AbsRecord && v.Id == id }
	turn := func(v api.Abs) api.Abs {
		if only == nil {
			return become
		}
		only(&v)
		return v
	}
	for r, v := range k.regs {
		if is(v) {
			k.regs[r] = turn(v)
		}
	}
	for at := 0; at < 64; at += 8 {
		if v := k.cells[at].piece; is(v) {
			k.fill(at, turn(v))
		}
	}
}

func (k *told) drop(id int) {
	var left []int
	for _, h := range k.held {
		if h != id {
			left = append(left, h)
		}
	}
	k.held = left
}

func (k *told) call(n int) bool {
	s, ok := steps.Signs()[n]
	for i, letter := range s.Args {
		ok = ok && k.fits(letter, s, i+1)
	}
	if !ok {
		return false
	}
	got := k.help(n)
	for r := 1; r <= 5; r++ {
		k.regs[r] = api.Abs{}
	}
	k.regs[0] = got
	return true
}

func (k *told) fits(letter rune, s steps.Sign, reg int) bool {
	v := k.regs[reg]
	var d api.MapDef
	if m := k.regs[1]; m.Kind == api.AbsMap && m.What >= 0 && m.What < len(k.defs) {
		d = k.defs[m.What]
	}
	switch letter {
	case 'm':
		return v.Kind == api.AbsMap && d.Kind > 0 && d.Kind < 6 && slices.Contains([]byte(s.Maps), "?ahitr"[d.Kind])
	case 'k':
		return k.full(v, d.Key)
	case 'v':
		return k.full(v, d.Value)
	case 'n':
		return v.Kind == api.AbsNum
	case 'c':
		return lengthOf(v) > 0
	case 'b':
		n := lengthOf(k.regs[reg+1])
		return n > 0 && v.Kind == api.AbsStack && v.Lo >= -64 && v.Lo <= -n
	}
	if v.Null || v.Lo != 0 || v.Hi != 0 {
		return false
	}
	if letter == 'R' {
		return v.Kind == api.AbsRecord && slices.Contains(k.held, v.Id)
	}
	return v.Kind == api.AbsObj && v.What == map[rune]int{'t': 1, 'i': 2}[letter]
}

// lengthOf tells the only number, if it is from 1 to 32; else 0.
func lengthOf(v api.Abs) int {
	for n := 1; n <= 32; n++ {
		if v.Kind == api.AbsNum && v.Num.Bits == (api.Tnum{Value: uint64(n)}) {
			return n
		}
	}
	return 0
}

// full asks for n bytes of the stack with values.
func (k *told) full(v api.Abs, n int) bool {
	if v.Kind != api.AbsStack || v.Lo < -64 || v.Lo > -n {
		return false
	}
	return !slices.ContainsFunc(k.cells[v.Lo+64:][:n], func(c cell) bool { return !c.have || c.piece.Kind > api.AbsNum })
}

func (k *told) help(n int) api.Abs {
	switch n {
	case 1, 4, 5:
		k.next++
		return api.Abs{Kind: api.AbsSlot, What: k.regs[1].What, Null: true, Id: k.next - 1}
	case 8:
		k.held = append(k.held, k.next)
		k.next++
		return api.Abs{Kind: api.AbsRecord, What: lengthOf(k.regs[2]), Null: true, Id: k.next - 1}
	case 9, 10:
		id := k.regs[1].Id
		k.drop(id)
		k.each(id, api.Abs{}, nil)
		return known(num.Const(0))
	case 12:
		size := lengthOf(k.regs[3])
		k.lay(k.regs[2].Lo+64, size)
		return known(num.Bounds(0, uint64(size)))
	case 13:
		return known(num.Bounds(0, 1))
	}
	return known(num.All())
}

// jump tells whether it can be, and whether it isn't refused.
func (k *told) jump(i api.Inst, taken bool) (bool, bool) {
	a, b := k.regs[i.Dst], k.operand(i)
	if a.Kind == api.AbsNum && b.Kind == api.AbsNum {
		x, y, can := narrow.Way(i.Op&0xF0, i.Op&7 == 5, a.Num, b.Num, taken)
		k.regs[i.Dst].Num = x
		if i.Op&8 != 0 {
			k.regs[i.Src].Num = y
		}
		return can, true
	}
	if i.Op != 0x15 && i.Op != 0x55 || i.Imm != 0 || !isPointer(a) {
		return false, false
	}
	null := taken == (i.Op == 0x15)
	switch {
	case !a.Null:
		return !null, true
	case null:
		k.drop(a.Id)
		k.each(a.Id, known(num.Const(0)), nil)
	default:
		k.each(a.Id, api.Abs{}, func(v *api.Abs) { v.Null = false })
	}
	return true, true
}
