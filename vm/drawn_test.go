package vm

import (
	"slices"
	"testing"

	"halberd/api"
	"halberd/inst"
	"halberd/ring"
	"halberd/samples"
	"halberd/steps"
)

// maker draws a code step by step, beside a run of it that is told once more.
type maker struct {
	seed *uint64
	x    *steps.Run
	// trap is what the code has come to, -1 where it has come to its end.
	trap int
	// barred are places that are jumped to, so that no second one of two may stand there.
	barred map[int]bool
	calls  int
}

func (m *maker) below(n int) int { return samples.Below(m.seed, n) }

func (m *maker) copied() *maker {
	c := *m
	c.x = m.x.Copy()
	return &c
}

// add puts instructions behind the code, and does their steps.
func (m *maker) add(l ...api.Inst) {
	if m.trap != 0 {
		return
	}
	m.x.Code = append(m.x.Code, l...)
	for m.trap == 0 && m.x.At < len(m.x.Code) {
		m.trap = m.x.Step()
	}
	if m.x.Done {
		m.trap = -1
	}
}

// attempt adds what is drawn; mostly not, if that traps.
func (m *maker) attempt(draw func(m *maker) []api.Inst) {
	for range 6 {
		c := m.copied()
		if l := draw(c); len(c.x.Code)+len(l) < 60 {
			c.add(l...)
		}
		if c.trap == 0 || m.below(100) == 0 {
			*m = *c
			return
		}
	}
}

// having draws a register, mostly one whose value suits.
func (m *maker) having(suits func(v steps.Value) bool) byte {
	start := m.below(11)
	for k := range 11 {
		if reg := (start + k) % 11; suits(m.x.Regs[reg]) && m.below(20) > 0 {
			return byte(reg)
		}
	}
	return byte(start)
}

func isNumber(v steps.Value) bool  { return v.What == "num" }
func isPointer(v steps.Value) bool { return v.Points() }
func hasValue(v steps.Value) bool  { return v.What != "" }

// small draws a number that is of use as an offset, a length or a flag; not always.
func (m *maker) small() int32 {
	switch m.below(8) {
	case 0:
		return int32(samples.Draw(m.seed))
	case 1:
		return int32(-8 * m.below(9))
	}
	return int32(m.below(36) - 2)
}

func (m *maker) dst() byte { return byte(m.below(10)) }

func drawOperation(m *maker) []api.Inst {
	all := append(operations(), api.Neg, api.Mov, api.Mov, api.Add, api.Sub)
	x := api.Inst{Op: all[m.below(len(all))] | []byte{api.ClassAlu, api.ClassAlu64, api.ClassAlu64}[m.below(3)]}
	suits := isNumber
	if x.Op == api.ClassAlu64|api.Add || x.Op == api.ClassAlu64|api.Sub {
		suits = hasValue
	}
	if x.Dst = m.having(suits); x.Dst == 10 || x.Op&0xF0 == api.Mov {
		x.Dst = m.dst()
	}
	switch {
	case x.Op&0xF0 == api.Neg:
	case m.below(2) == 0:
		x.Op |= api.FromReg
		if suits = isNumber; x.Op == api.ClassAlu64|api.FromReg|api.Mov {
			suits = hasValue
		}
		x.Src = m.having(suits)
	default:
		x.Imm = m.small()
	}
	return []api.Inst{x}
}

func drawWide(m *maker) []api.Inst {
	if m.barred[len(m.x.Code)+1] {
		return nil
	}
	p := inst.Pair(api.LdWide, m.dst(), 0, samples.Number(m.seed))
	if m.below(2) == 0 {
		p = inst.Pair(api.LdWide, m.dst(), 1, uint64(m.below(4)))
	}
	return p[:]
}

// offset draws one that goes near the bytes of a pointer.
func (m *maker) offset(v steps.Value) int16 {
	off := int64(m.below(20) - 4)
	switch {
	case m.below(30) == 0:
		return int16(samples.Draw(m.seed))
	case v.What == "stack":
		off = int64(m.below(72) - 68)
		if m.below(2) == 0 {
			off = int64(-8 * (1 + m.below(8)))
		}
		off -= v.Off
	case v.What == "ctx":
		off = int64(8*m.below(6)) - v.Off
	case v.What == "obj":
		off = int64(m.below(66)) - v.Off
	case m.below(2) == 0:
		off = -v.Off
	}
	return int16(off)
}

var sizeBits = []byte{0x00, 0x08, 0x10, 0x18, 0x18}

func drawLoad(m *maker) []api.Inst {
	src := m.having(isPointer)
	return []api.Inst{{Op: 0x61 | sizeBits[m.below(5)], Dst: m.dst(), Src: src, Off: m.offset(m.x.Regs[src])}}
}

func drawStore(m *maker) []api.Inst {
	dst := m.having(isPointer)
	x := api.Inst{Op: 0x62 | sizeBits[m.below(5)], Dst: dst, Off: m.offset(m.x.Regs[dst])}
	if m.below(3) == 0 {
		x.Imm = m.small()
	} else {
		x.Op |= 1
		x.Src = m.having(hasValue)
	}
	return []api.Inst{x}
}

// drawJump tells with a jump that is taken what it goes over.
func drawJump(m *maker) []api.Inst {
	all := append(conditions(), api.Jeq, api.Jne)
	x := api.Inst{Op: all[m.below(len(all))] | []byte{api.ClassJmp, api.ClassJmp, api.ClassJmp32}[m.below(3)], Dst: m.having(isNumber), Off: int16(m.below(3))}
	switch m.below(4) {
	case 0:
		x = api.Inst{Op: api.ClassJmp | api.Ja, Off: x.Off}
	case 1:
		x.Dst = m.having(isPointer)
	case 2:
		x.Op |= api.FromReg
		x.Src = m.having(isNumber)
	default:
		x.Imm = m.small()
	}
	l := []api.Inst{x}
	m.barred[len(m.x.Code)+1+int(x.Off)] = true
	c := m.copied()
	c.add(x)
	for range c.x.At - len(c.x.Code) {
		l = append(l, api.Inst{Op: api.ClassAlu64 | api.Mov, Dst: m.dst(), Imm: m.small()})
	}
	return l
}

// drawCall tells a call with its arguments, most of which suit.
func drawCall(m *maker) []api.Inst {
	n := 1 + m.below(13)
	if m.below(60) == 0 {
		n = m.below(20)
	}
	var l []api.Inst
	args := steps.Signs()[n].Args
	// From the last one on, as what is there may be moved away by the first.
	for i := len(args) - 1; i >= 0; i-- {
		if m.below(50) > 0 {
			l = append(l, m.argument(args[i], byte(i+1))...)
		}
	}
	m.calls++
	return append(l, api.Inst{Op: api.ClassJmp | api.CallOp, Imm: int32(n)})
}

func (m *maker) argument(letter byte, reg byte) []api.Inst {
	mov := func(suits func(v steps.Value) bool) []api.Inst {
		return []api.Inst{{Op: api.ClassAlu64 | api.Mov | api.FromReg, Dst: reg, Src: m.having(suits)}}
	}
	switch letter {
	case 'm':
		for k := range 2 {
			if m.barred[len(m.x.Code)+k+1] {
				return mov(func(v steps.Value) bool { return v.What == "map" })
			}
		}
		p := inst.Pair(api.LdWide, reg, 1, uint64(m.below(4)))
		return p[:]
	case 'k', 'v', 'b':
		return []api.Inst{{Op: api.ClassAlu64 | api.Mov | api.FromReg, Dst: reg, Src: 10}, {Op: api.ClassAlu64 | api.Add, Dst: reg, Imm: int32(-1 - m.below(66))}}
	case 'i', 't':
		typ := map[byte]int{'t': 1, 'i': 2}[letter]
		return mov(func(v steps.Value) bool { return v.What == "obj" && m.x.Context.Objs[v.No].Type == typ })
	case 'R':
		return mov(func(v steps.Value) bool { return v.What == "rec" })
	case 'c':
		return []api.Inst{{Op: api.ClassAlu64 | api.Mov, Dst: reg, Imm: int32(m.below(40))}}
	}
	return []api.Inst{{Op: api.ClassAlu64 | api.Mov, Dst: reg, Imm: int32(m.below(4))}}
}

// drawn draws a code for a bench, which is left as it is; and how many calls it does.
func drawn(b *bench, seed *uint64) ([]api.Inst, int) {
	c := b.copied()
	m := &maker{seed: seed, x: steps.Begin(nil, c.c, c.o, c.r, c.owner), barred: map[int]bool{}}
	// The context would be gone behind the first call.
	m.add(api.Inst{Op: 0xBF, Dst: 9, Src: 1}, api.Inst{Op: 0x79, Dst: 7, Src: 1}, api.Inst{Op: 0x79, Dst: 8, Src: 1, Off: 8})
	for off := int16(-8 - 8*m.below(8)); off < 0; off += 8 {
		m.add(api.Inst{Op: 0x7A, Dst: 10, Off: off, Imm: int32(m.below(3))})
	}
	ways := []func(m *maker) []api.Inst{drawOperation, drawOperation, drawOperation, drawWide, drawLoad, drawLoad, drawStore, drawStore, drawJump, drawCall, drawCall}
	for range 10 + m.below(40) {
		if m.trap == 0 {
			m.attempt(ways[m.below(len(ways))])
		}
	}
	return m.finished(), m.calls
}

// finished ends a code, mostly with a number and nothing held.
func (m *maker) finished() []api.Inst {
	for reg := range byte(10) {
		if v := m.x.Regs[reg]; m.trap == 0 && v.What == "rec" && slices.Contains(m.x.Mine, v.No) && m.below(8) > 0 && len(m.x.Code) < 58 {
			m.add(api.Inst{Op: 0xBF, Dst: 1, Src: reg}, api.Inst{Op: api.ClassJmp | api.CallOp, Imm: int32(9 + m.below(2))})
		}
	}
	if m.below(8) > 0 && m.x.Regs[0].What != "num" {
		m.add(api.Inst{Op: 0xB7, Imm: m.small()})
	}
	l := m.x.Code
	// What isn't taken may jump this far.
	for range 3 {
		l = append(l, exit)
	}
	return l
}

// drawnBench draws maps of four kinds, a context, and a ring, which mostly has all its room.
func drawnBench(t *testing.T, seed *uint64) *bench {
	t.Helper()
	below := func(n int) int { return samples.Below(seed, n) }
	defs := []api.MapDef{
		{Kind: api.MapArray, Key: 4, Value: 1 + below(12), Max: 1 + below(3)},
		{Kind: api.MapHash, Key: 1 + below(8), Value: 1 + below(12), Max: 1 + below(3)},
		{Kind: api.MapInode + below(2), Value: 1 + below(32), Max: 1 + below(2)},
		{Kind: api.MapRing},
	}
	b := benchOf(t, defs...)
	all := samples.AllContexts()
	b.c = all[below(len(all))]
	for b.c.Words[1] > 8 {
		b.c = all[below(len(all))]
	}
	b.c.Now = samples.Number(seed)
	b.owner = below(7)
	if below(3) == 0 {
		b.r, _ = ring.New(1 + below(60))
	}
	return b
}

func TestDrawnCodes(t *testing.T) { // P18.1, P18.2
	seed := uint64(1)
	traps := map[int]int{}
	calls, steps := 0, 0
	for range 3000 {
		b := drawnBench(t, &seed)
		// Later codes find what the ones ahead of them left.
		for range 3 {
			l, n := drawn(b, &seed)
			got := b.run(t, l)
			traps[got.Trap]++
			calls += n
			steps += got.Steps
			if samples.Below(&seed, 3) == 0 {
				b.r.Drain()
			}
		}
	}
	for trap, least := range map[int]int{api.TrapNone: 2500, api.TrapRead: 100, api.TrapAccess: 100, api.TrapType: 100, api.TrapCall: 100, api.TrapLeak: 100} {
		if traps[trap] < least {
			t.Errorf("trap %d: %d times", trap, traps[trap])
		}
	}
	if traps[api.TrapCode] > 900 || calls < 9000 || steps < 100000 {
		t.Errorf("%d codes aren't well formed; %d calls, %d steps", traps[api.TrapCode], calls, steps)
	}
}
