package areg_test

import (
	"slices"
	"strconv"
	"testing"

	"halberd/api"
	"halberd/areg"
	"halberd/hooks"
	"halberd/inst"
	"halberd/num"
	"halberd/owned"
	"halberd/ring"
	"halberd/samples"
	"halberd/steps"
	"halberd/vm"
)

// walk is a run that is drawn step by step, beside what is known of it: only what isn't refused is done.
type walk struct {
	bench
	seed *uint64
	s    api.AState
	x    *steps.Run
	// begun has the maps and the ring as they were at the beginning.
	begun *steps.Run
	// ids has what each Id stands for in this run, its offset 0; null is a number.
	ids map[int]steps.Value
	// done and refused count instructions by what they are.
	done, refused map[string]int
}

func (w *walk) below(n int) int { return samples.Below(w.seed, n) }

// drawnWalk has a context of any hook, maps of four kinds with something in them, and a ring, which may have no room.
func drawnWalk(t *testing.T, seed *uint64) *walk {
	t.Helper()
	below := func(n int) int { return samples.Below(seed, n) }
	defs := []api.MapDef{
		{Kind: api.MapArray, Key: 4, Value: 1 + below(12), Max: 1 + below(3)},
		{Kind: api.MapHash, Key: 1 + below(8), Value: 1 + below(12), Max: 1 + below(3)},
		{Kind: api.MapInode + below(2), Value: 1 + below(32), Max: 1 + below(2)},
		{Kind: api.MapRing},
	}
	o, err := owned.New(defs)
	r, ringErr := ring.New([]int{api.RingSize, api.RingSize, 1 + below(60)}[below(3)])
	if err != api.OK || ringErr != api.OK {
		t.Fatalf("no maps of %v: %d", defs, err)
	}
	all := samples.AllContexts()
	c := all[below(len(all))]
	c.Now = samples.Number(seed)
	fill(o, c, seed)
	x := steps.Begin(nil, c, o, r, below(7))
	return &walk{bench: bench{hook: c.Hook, defs: defs}, seed: seed, s: areg.Begin(), x: x, begun: x.Copy(), ids: map[int]steps.Value{}, done: map[string]int{}, refused: map[string]int{}}
}

// fill writes to slots, and puts keys of zeros, of which programs think first, and objects of the context's.
func fill(o *owned.Owned, c api.Context, seed *uint64) {
	for m := range 3 {
		d, _ := o.Def(m)
		if samples.Below(seed, 2) == 0 {
			o.Update(m, make([]byte, d.Key), samples.Bytes(d.Value, seed), 0)
		}
		for _, obj := range c.Objs {
			if samples.Below(seed, 2) == 0 && m == 2 {
				o.Get(m, obj.Key, true)
			}
		}
		if b, ok := o.Slot(m, 0); ok {
			copy(b, samples.Bytes(len(b), seed))
		}
	}
}

// nameOf tells what an instruction is, to be counted.
func nameOf(i api.Inst) string {
	switch i.Op & 7 {
	case api.ClassLd:
		return "wide" + strconv.Itoa(int(i.Src))
	case api.ClassLdx:
		return "load"
	case api.ClassSt, api.ClassStx:
		return "store"
	case api.ClassAlu, api.ClassAlu64:
		return "op"
	}
	if i.Op == api.CallOp|api.ClassJmp {
		return "call" + strconv.Itoa(int(i.Imm))
	}
	return "jump"
}

// try does an instruction that is no jump, if it isn't refused.
func (w *walk) try(t *testing.T, l ...api.Inst) bool {
	t.Helper()
	if len(w.x.Code)+len(l) > api.MaxInsts-4 {
		return false
	}
	behind, ok := w.do(t, w.s, l...)
	if !ok {
		w.refused[nameOf(l[0])]++
		return false
	}
	w.x.Code = append(w.x.Code, l...)
	w.step(t, behind, l[0])
	return true
}

// step does the next step of the run, which is as is known behind it.
func (w *walk) step(t *testing.T, behind api.AState, i api.Inst) {
	t.Helper()
	if trap := w.x.Step(); trap != api.TrapNone {
		t.Fatalf("%s: the last one isn't refused, but traps: %d", textOfInst(w.x.Code...), trap)
	}
	w.done[nameOf(i)]++
	if behind.Next != w.s.Next {
		reg := 0
		if i.Op&7 == api.ClassLdx {
			reg = int(i.Dst)
		}
		w.ids[w.s.Next] = w.x.Regs[reg]
	}
	w.s = behind
	w.hold(t)
}

// tryJump does a jump, if it isn't refused, by the way that the run goes.
func (w *walk) tryJump(t *testing.T, i api.Inst) bool {
	t.Helper()
	if len(w.x.Code) > api.MaxInsts-6 {
		return false
	}
	// It jumps over one, so that it is seen which way the run goes.
	i.Off = 1
	over := api.Inst{Op: api.ClassAlu64 | api.Mov, Dst: byte(w.below(10)), Imm: w.small()}
	taken, canTaken, ok := w.jump(t, w.s, i, true)
	not, canNot, okNot := w.jump(t, w.s, i, false)
	if ok != okNot {
		t.Fatalf("%s: refused by one way alone", textOfInst(i))
	}
	if !ok {
		w.refused["jump"]++
		return false
	}
	w.x.Code = append(w.x.Code, i)
	c := w.x.Copy()
	c.Step()
	if c.At > len(c.Code) {
		if !canTaken {
			t.Fatalf("%s: the last one is taken, though it can't be", textOfInst(w.x.Code...))
		}
		w.x.Code = append(w.x.Code, over)
		w.step(t, taken, i)
		w.done["taken"]++
		return true
	}
	if !canNot {
		t.Fatalf("%s: the last one isn't taken, though it can't be", textOfInst(w.x.Code...))
	}
	w.step(t, not, i)
	return w.try(t, over)
}

// hold asks whether the run is as is known.
func (w *walk) hold(t *testing.T) {
	t.Helper()
	for r, v := range w.s.Regs {
		if !w.is(v, w.x.Regs[r]) {
			t.Fatalf("%s: r%d is %+v, known as %s", textOfInst(w.x.Code...), r, w.x.Regs[r], textOf(v))
		}
	}
	for p, v := range w.s.Places {
		if !w.isPlace(v, w.x.Cells[8*p:8*p+8]) {
			t.Fatalf("%s: [%d] is %+v, known as %s", textOfInst(w.x.Code...), 8*p-64, w.x.Cells[8*p:8*p+8], textOfPlace(v))
		}
	}
	var mine []int
	for _, id := range w.s.Held {
		if v := w.ids[id]; v.What == "rec" {
			mine = append(mine, v.No)
		}
	}
	if !slices.Equal(mine, w.x.Mine) || !slices.IsSorted(w.s.Held) {
		t.Fatalf("%s: %v are held, known as %s", textOfInst(w.x.Code...), w.x.Mine, textOfIds(w.s))
	}
}

// is asks whether a value is as is known.
func (w *walk) is(v api.Abs, x steps.Value) bool {
	within := x.Off >= int64(v.Lo) && x.Off <= int64(v.Hi)
	switch v.Kind {
	case api.AbsNone:
		return true
	case api.AbsNum:
		return x.What == "num" && num.Has(v.Num, x.Num)
	case api.AbsStack:
		return x.What == "stack" && within && v.Lo == v.Hi
	case api.AbsCtx:
		return x.What == "ctx" && within && v.Lo == v.Hi
	case api.AbsMap:
		return x.What == "map" && x.No == v.What
	}
	stands := x
	stands.Off = 0
	if stands != w.ids[v.Id] || v.Id < 1 || v.Id >= w.s.Next {
		return false
	}
	if x.What == "num" {
		return v.Null && x.Num == 0 && v.Lo == 0 && v.Hi == 0
	}
	return within && w.isOf(v, x)
}

// isOf asks whether a pointer is to what has the type, the map or the bytes.
func (w *walk) isOf(v api.Abs, x steps.Value) bool {
	switch v.Kind {
	case api.AbsObj:
		return x.What == "obj" && w.x.Context.Objs[x.No].Type == v.What
	case api.AbsSlot:
		return x.What == "slot" && x.No == v.What
	}
	b, _ := w.x.Ring.Record(x.No)
	return x.What == "rec" && slices.Contains(w.x.Mine, x.No) && len(b) == v.What
}

func (w *walk) isPlace(p api.APlace, l []steps.Cell) bool {
	bytes, n := 0, uint64(0)
	for k, c := range l {
		if p.Have[k] && c.What != "byte" {
			return false
		}
		if c.What == "byte" {
			bytes++
			n += uint64(c.B) << (8 * k)
		}
	}
	switch {
	case p.V.Kind == api.AbsNone:
		return true
	case bytes == 8:
		return w.is(p.V, steps.Value{What: "num", Num: n})
	}
	return l[0].What == "piece" && w.is(p.V, l[0].Piece)
}

// probe asks layer 18 itself what a register has.
func (w *walk) probe(t *testing.T) {
	t.Helper()
	reg := w.below(10)
	l := append(slices.Clone(w.x.Code), api.Inst{Op: api.ClassAlu64 | api.FromReg | api.Mov, Src: byte(reg)}, api.Inst{Op: api.ClassJmp | api.Exit})
	c := w.begun.Copy()
	got := vm.Run(l, c.Context, c.Maps, c.Ring, c.Owner)
	v, leaks := w.s.Regs[reg], len(w.x.Mine) > 0
	number := got.Trap == api.TrapNone && !leaks || got.Trap == api.TrapLeak && leaks
	fits := false
	switch {
	case v.Kind == api.AbsNone:
		fits = true
	case v.Kind == api.AbsNum:
		fits = number && (leaks || num.Has(v.Num, got.Ret))
	case v.Null:
		fits = got.Trap == api.TrapType || number && got.Ret == 0
	default:
		fits = got.Trap == api.TrapType
	}
	if !fits {
		t.Fatalf("%s: %+v, known as %s", textOfInst(l...), got, textOf(v))
	}
}

// small draws a number that is of use as an offset, a length or a flag; not always.
func (w *walk) small() int32 {
	switch w.below(10) {
	case 0:
		return int32(samples.Draw(w.seed))
	case 1:
		return int32(-8 * w.below(9))
	case 2:
		return int32(w.below(9000) - 4500)
	}
	return int32(w.below(36) - 2)
}

// having draws a register, mostly one of which what is known suits.
func (w *walk) having(suits func(v api.Abs) bool) byte {
	start := w.below(11)
	for k := range 11 {
		if r := (start + k) % 11; suits(w.s.Regs[r]) && w.below(20) > 0 {
			return byte(r)
		}
	}
	return byte(start)
}

func isNumber(v api.Abs) bool { return v.Kind == api.AbsNum }
func hasValue(v api.Abs) bool { return v.Kind != api.AbsNone }
func hasBytes(v api.Abs) bool { return isPointer(v) && !v.Null }
func hasNull(v api.Abs) bool  { return v.Null }

// dst draws a register to be written, mostly none that would be missed.
func (w *walk) dst() byte {
	for range 4 {
		if r := w.below(10); !isPointer(w.s.Regs[r]) || w.below(4) == 0 {
			return byte(r)
		}
	}
	return byte(w.below(10))
}

func (w *walk) drawOp(t *testing.T) bool {
	all := append(operations(), api.Neg, api.Mov, api.Mov, api.Mov, api.Add, api.Add, api.Sub, api.And, api.And)
	i := api.Inst{Op: all[w.below(len(all))] | []byte{api.ClassAlu, api.ClassAlu64, api.ClassAlu64}[w.below(3)], Dst: w.having(isNumber)}
	op, wide := i.Op&0xF0, i.Op&7 == api.ClassAlu64
	second := isNumber
	if wide && op <= api.Sub && w.below(2) == 0 {
		i.Dst = w.having(hasBytes)
	}
	if op == api.Mov {
		i.Dst = w.dst()
		second = hasValue
	}
	if i.Dst == 10 {
		i.Dst = w.dst()
	}
	switch {
	case op == api.Neg:
	case w.below(2) == 0:
		i.Op |= api.FromReg
		i.Src = w.having(second)
	default:
		i.Imm = w.small()
	}
	return w.try(t, i)
}

func (w *walk) drawWide(t *testing.T) bool {
	l := inst.Pair(api.LdWide, w.dst(), 0, samples.Number(w.seed))
	if w.below(2) == 0 {
		l = inst.Pair(api.LdWide, w.dst(), 1, uint64(w.below(4)))
	}
	return w.try(t, l[:]...)
}

// offset draws one that goes near the bytes of a pointer.
func (w *walk) offset(v api.Abs) int16 {
	off := w.below(20) - 4
	switch {
	case w.below(30) == 0:
		return int16(samples.Draw(w.seed))
	case v.Kind == api.AbsStack && w.below(2) == 0:
		off = -8 * (1 + w.below(8))
	case v.Kind == api.AbsStack:
		off = w.below(74) - 70
	case v.Kind == api.AbsCtx:
		off = 8 * w.below(6)
	case v.Kind == api.AbsObj:
		off = w.below(66)
	case w.below(2) == 0:
		off = 0
	}
	return int16(off - v.Lo)
}

func (w *walk) drawLoad(t *testing.T) bool {
	src := w.having(hasBytes)
	if w.below(4) == 0 {
		src = 10
	}
	n := sizes[w.below(4)]
	if w.s.Regs[src].Kind == api.AbsCtx || w.below(3) == 0 {
		n = 8
	}
	return w.try(t, api.Inst{Op: loads(n), Dst: w.dst(), Src: src, Off: w.offset(w.s.Regs[src])})
}

func (w *walk) drawStore(t *testing.T) bool {
	dst := w.having(hasBytes)
	if w.below(3) == 0 {
		dst = 10
	}
	i := api.Inst{Op: stores(sizes[w.below(4)]), Dst: dst, Off: w.offset(w.s.Regs[dst])}
	if w.below(3) == 0 {
		i.Op = stores(8)
	}
	if w.below(2) == 0 {
		i.Imm = w.small()
	} else {
		i.Op++
		i.Src = w.having(hasValue)
	}
	return w.try(t, i)
}

func (w *walk) drawJump(t *testing.T) bool {
	all := append(conditions(), api.Jeq, api.Jne)
	i := api.Inst{Op: all[w.below(len(all))] | []byte{api.ClassJmp, api.ClassJmp, api.ClassJmp32}[w.below(3)], Dst: w.having(isNumber), Imm: w.small()}
	switch w.below(4) {
	case 0:
		i = api.Inst{Op: []byte{api.Jeq, api.Jne}[w.below(2)] | api.ClassJmp, Dst: w.having(isPointer)}
	case 1:
		// Of a register with itself nothing says which of both is told of it.
		if src := w.having(isNumber); src != i.Dst {
			i.Op |= api.FromReg
			i.Src, i.Imm = src, 0
		}
	}
	return w.tryJump(t, i)
}

// drawNull asks whether something is null that may be.
func (w *walk) drawNull(t *testing.T) bool {
	return w.tryJump(t, api.Inst{Op: []byte{api.Jeq, api.Jne}[w.below(2)] | api.ClassJmp, Dst: w.having(hasNull)})
}

// drawCall does a call with its arguments, most of which suit.
func (w *walk) drawCall(t *testing.T) bool {
	n := 1 + w.below(13)
	args := steps.Signs()[n].Args
	// From the last one on, as what is there may be moved away by the first.
	for k := len(args) - 1; k >= 0; k-- {
		if w.below(50) > 0 {
			w.drawArgument(t, args[k], byte(k+1), n)
		}
	}
	return w.try(t, api.Inst{Op: api.ClassJmp | api.CallOp, Imm: int32(n)})
}

func (w *walk) drawArgument(t *testing.T, letter byte, reg byte, helper int) {
	mov := func(suits func(v api.Abs) bool) {
		w.try(t, api.Inst{Op: api.ClassAlu64 | api.Mov | api.FromReg, Dst: reg, Src: w.having(suits)})
	}
	set := func(c int) { w.try(t, api.Inst{Op: api.ClassAlu64 | api.Mov, Dst: reg, Imm: int32(c)}) }
	switch letter {
	case 'm':
		m := []int{0, w.below(2), w.below(2), 1, 2, 2, 2, 2, 3}[helper]
		if w.below(20) == 0 {
			m = w.below(4)
		}
		l := inst.Pair(api.LdWide, reg, 1, uint64(m))
		w.try(t, l[:]...)
	case 'k', 'v', 'b':
		w.try(t, api.Inst{Op: api.ClassAlu64 | api.Mov | api.FromReg, Dst: reg, Src: 10})
		w.try(t, api.Inst{Op: api.ClassAlu64 | api.Add, Dst: reg, Imm: int32(w.onStack())})
	case 'i', 't':
		typ := map[byte]int{'t': api.TypeTask, 'i': api.TypeInode}[letter]
		mov(func(v api.Abs) bool { return v.Kind == api.AbsObj && v.What == typ && !v.Null })
	case 'R':
		mov(func(v api.Abs) bool { return v.Kind == api.AbsRecord && !v.Null })
	case 'c':
		set(w.below(36))
	default:
		set(w.below(4))
	}
}

// onStack draws an offset, mostly one from which on bytes have values.
func (w *walk) onStack() int {
	off := -1 - w.below(66)
	for range w.below(40) {
		from := max(off, -64) + 64
		if p := w.s.Places[from/8]; from <= 56 && p.Have[from%8] && w.s.Places[(from+7)/8].Have[(from+7)%8] {
			return off
		}
		off = -1 - w.below(66)
	}
	return off
}

// drawSettle goes on with a record, if there is one: it is asked whether it is null, then it is written, told or thrown away.
func (w *walk) drawSettle(t *testing.T) bool {
	r := w.having(func(v api.Abs) bool { return v.Kind == api.AbsRecord })
	if v := w.s.Regs[r]; v.Null {
		w.tryJump(t, api.Inst{Op: api.ClassJmp | api.Jeq, Dst: r})
	}
	w.try(t, api.Inst{Op: stores(sizes[w.below(4)]), Dst: r, Off: w.offset(w.s.Regs[r]), Imm: w.small()})
	w.try(t, api.Inst{Op: api.ClassAlu64 | api.Mov | api.FromReg, Dst: 1, Src: r})
	return w.try(t, api.Inst{Op: api.ClassJmp | api.CallOp, Imm: int32(9 + w.below(2))})
}

// finish settles what is held, and ends the run, if it may end then.
func (w *walk) finish(t *testing.T) {
	t.Helper()
	for r := range byte(10) {
		v := w.s.Regs[r]
		if v.Kind != api.AbsRecord || w.below(8) == 0 {
			continue
		}
		if v.Null {
			w.tryJump(t, api.Inst{Op: api.ClassJmp | api.Jeq, Dst: r})
		}
		if v = w.s.Regs[r]; v.Kind == api.AbsRecord && !v.Null && v.Lo == 0 && v.Hi == 0 {
			w.try(t, api.Inst{Op: api.ClassAlu64 | api.Mov | api.FromReg, Dst: 1, Src: r})
			w.try(t, api.Inst{Op: api.ClassJmp | api.CallOp, Imm: int32(9 + w.below(2))})
		}
	}
	if w.below(4) > 0 {
		w.try(t, api.Inst{Op: api.ClassAlu64 | api.Mov, Imm: int32(w.below(42))})
	}
	may := areg.Exit(w.s, w.hook)
	w.x.Code = append(w.x.Code, api.Inst{Op: api.ClassJmp | api.Exit})
	c := w.begun.Copy()
	got := vm.Run(w.x.Code, c.Context, c.Maps, c.Ring, c.Owner)
	if !may {
		w.done["no end"]++
		return
	}
	w.done["end"]++
	d, _ := hooks.Of(w.hook)
	if want := (api.Result{Ret: w.x.Regs[0].Num, Steps: w.x.Steps + 1}); got != want || got.Ret > d.Max || !num.Has(w.s.Regs[0].Num, got.Ret) {
		t.Fatalf("%s: %+v, not %+v, by the hook %d", textOfInst(w.x.Code...), got, want, w.hook)
	}
	if string(c.Maps.Bytes()) != string(w.x.Maps.Bytes()) || string(c.Ring.Bytes()) != string(w.x.Ring.Bytes()) {
		t.Fatalf("%s: it leaves something else", textOfInst(w.x.Code...))
	}
}

// start keeps the context, over calls, and mostly some objects and values on the stack.
func (w *walk) start(t *testing.T) {
	t.Helper()
	w.hold(t)
	w.try(t, api.Inst{Op: api.ClassAlu64 | api.Mov | api.FromReg, Dst: 9, Src: 1})
	for k := range w.below(4) {
		w.try(t, api.Inst{Op: loads(8), Dst: byte(6 + k), Src: 1, Off: int16(8 * w.below(4))})
	}
	for off := int16(-8 - 8*w.below(8)); off < 0 && w.below(3) > 0; off += 8 {
		w.try(t, api.Inst{Op: stores(8), Dst: 10, Off: off, Imm: int32(w.below(3))})
	}
}

func TestDrawnRunsAreAsIsKnown(t *testing.T) { // P19.8, and P19.1 to P19.7 by what is told once more
	seed := uint64(1)
	done, refused := map[string]int{}, map[string]int{}
	for range 2500 {
		w := drawnWalk(t, &seed)
		w.start(t)
		ways := []func(w *walk, t *testing.T) bool{
			(*walk).drawOp, (*walk).drawOp, (*walk).drawOp, (*walk).drawWide, (*walk).drawLoad, (*walk).drawLoad, (*walk).drawStore, (*walk).drawStore,
			(*walk).drawJump, (*walk).drawNull, (*walk).drawCall, (*walk).drawCall, (*walk).drawCall, (*walk).drawSettle,
		}
		for range 25 + w.below(40) {
			ways[w.below(len(ways))](w, t)
			w.probe(t)
		}
		w.finish(t)
		for name, n := range w.done {
			done[name] += n
		}
		for name, n := range w.refused {
			refused[name] += n
		}
	}
	least := map[string]int{"op": 15000, "wide0": 2000, "wide1": 5000, "load": 6000, "store": 6000, "jump": 5000, "taken": 2000, "end": 500, "no end": 500}
	for n := range 13 {
		least["call"+strconv.Itoa(n+1)] = 100
	}
	for name, n := range least {
		if done[name] < n {
			t.Errorf("%s: %d times, not %d", name, done[name], n)
		}
	}
	for _, name := range []string{"op", "load", "store", "jump", "call1", "call2", "call4", "call8", "call9", "call12"} {
		if refused[name] < 100 {
			t.Errorf("%s: refused %d times", name, refused[name])
		}
	}
}
