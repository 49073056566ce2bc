package areg

import (
	"halberd/api"
	"halberd/num"
	"halberd/xfer"
)

func Op(s api.AState, i api.Inst) (api.AState, bool) {
	k := copied(s)
	v, ok := k.operated(i)
	return k.told(ok && k.set(i.Dst, v))
}

// operated tells what an operation makes of its operands; false where it is refused.
func (k *known) operated(i api.Inst) (api.Abs, bool) {
	class, op := i.Op&classBits, i.Op&operationBits
	wide := class == api.ClassAlu64
	if !wide && class != api.ClassAlu {
		return api.Abs{}, false
	}
	a, b := k.value(i.Dst), k.second(i)
	switch {
	case wide && op == api.Mov:
		return b, b.Kind != api.AbsNone
	case wide && isPointer(a) && (op == api.Add || op == api.Sub):
		return moved(a, b, op == api.Sub)
	}
	return calculated(op, wide, a, b)
}

func calculated(op byte, wide bool, a, b api.Abs) (api.Abs, bool) {
	// What was there ahead of a Mov is nothing to it.
	if a.Kind != api.AbsNum && op != api.Mov || b.Kind != api.AbsNum {
		return api.Abs{}, false
	}
	x, ok := xfer.Do(op, wide, a.Num, b.Num)
	return number(x), ok
}

// moved tells a pointer whose offset is more, or less, by a number; false where it is refused.
func moved(p, by api.Abs, less bool) (api.Abs, bool) {
	if p.Null || by.Kind != api.AbsNum {
		return api.Abs{}, false
	}
	lo, hi, ok := distance(p, by.Num, less)
	p.Lo += lo
	p.Hi += hi
	return p, ok && isOffset(int64(p.Lo)) && isOffset(int64(p.Hi))
}

// distance tells by how much a pointer's Lo and Hi are more behind a move by a number.
func distance(p api.Abs, by api.Num, less bool) (int, int, bool) {
	if c, one := num.IsConst(by); one {
		n := int(int64(c))
		if less {
			n = -n
		}
		return n, n, isOffset(int64(c))
	}
	// Only where bytes alone are, and no words, an offset needn't be known.
	ranges := p.Kind == api.AbsSlot || p.Kind == api.AbsRecord
	return int(by.ULo), int(by.UHi), ranges && !less && by.UHi <= api.MaxOff
}

func isOffset(n int64) bool {
	return n >= -api.MaxOff && n <= api.MaxOff
}
