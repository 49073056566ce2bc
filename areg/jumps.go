package areg

import (
	"halberd/api"
	"halberd/isa"
	"halberd/narrow"
)

func Jump(s api.AState, i api.Inst, taken bool) (api.AState, bool, bool) {
	k := copied(s)
	can, ok := k.jumped(i, taken)
	s, can = k.told(can)
	return s, can, ok
}

// jumped answers whether it can be so, and whether the jump isn't refused; what is refused can't be.
func (k *known) jumped(i api.Inst, taken bool) (bool, bool) {
	op, wide := i.Op&operationBits, i.Op&classBits == api.ClassJmp
	if !isa.IsJump(i) || op == api.Ja {
		return false, false
	}
	a, b := k.value(i.Dst), k.second(i)
	if a.Kind == api.AbsNum && b.Kind == api.AbsNum {
		return k.narrowed(i, taken), true
	}
	if wide && isPointer(a) && isNull(i) && (op == api.Jeq || op == api.Jne) {
		return k.compared(a, taken == (op == api.Jeq)), true
	}
	return false, false
}

// isNull tells whether an instruction's second operand is null by itself, not by what a register has.
func isNull(i api.Inst) bool {
	return !isFromReg(i) && i.Imm == 0
}

// narrowed answers whether it can be so, of two numbers.
func (k *known) narrowed(i api.Inst, taken bool) bool {
	op, wide := i.Op&operationBits, i.Op&classBits == api.ClassJmp
	x, y, can := narrow.Way(op, wide, k.value(i.Dst).Num, k.second(i).Num, taken)
	k.Regs[i.Dst].Num = x
	if isFromReg(i) {
		k.Regs[i.Src].Num = y
	}
	return can
}

// compared answers whether it can be so, of a pointer that is null, or isn't.
func (k *known) compared(p api.Abs, null bool) bool {
	switch {
	case !p.Null:
		return !null
	case null:
		k.let(p.Id)
		k.all(p.Id, func(api.Abs) api.Abs { return constant(0) })
	default:
		k.all(p.Id, func(v api.Abs) api.Abs {
			v.Null = false
			return v
		})
	}
	return true
}
