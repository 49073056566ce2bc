package narrow

import (
	"math"
	"math/bits"

	"halberd/api"
	"halberd/num"
	"halberd/tnum"
)

// way tells what is known of both behind it, which isn't refined yet, and whether it can be gone.
type way func(p pair) (pair, bool)

// condition has a way where it holds, and one where it doesn't.
type condition struct{ holds, not way }

func conditions() map[byte]condition {
	return map[byte]condition{
		api.Jeq:  {pair.same, pair.different},
		api.Jne:  {pair.different, pair.same},
		api.Jgt:  {pair.above, turned(pair.notBelow)},
		api.Jge:  {pair.notBelow, turned(pair.above)},
		api.Jlt:  {turned(pair.above), pair.notBelow},
		api.Jle:  {turned(pair.notBelow), pair.above},
		api.Jsgt: {pair.aboveSigned, turned(pair.notBelowSigned)},
		api.Jsge: {pair.notBelowSigned, turned(pair.aboveSigned)},
		api.Jslt: {turned(pair.aboveSigned), pair.notBelowSigned},
		api.Jsle: {turned(pair.notBelowSigned), pair.aboveSigned},
		api.Jset: {pair.common, pair.apart},
	}
}

// turned makes a way of a and b one of b and a.
func turned(says way) way {
	return func(p pair) (pair, bool) {
		p, ok := says(pair{p.b, p.a})
		return pair{p.b, p.a}, ok
	}
}

func (p pair) same() (pair, bool) {
	x, ok := num.Meet(p.a, p.b)
	return pair{x, x}, ok
}

func (p pair) different() (pair, bool) {
	q := p
	if c, one := num.IsConst(p.b); one {
		q.a = without(p.a, c)
	}
	if c, one := num.IsConst(p.a); one {
		q.b = without(p.b, c)
	}
	return q, true
}

// without takes a number away where it is at an end. If it is at both, at least one of them moves, so that they are crossed, which Refine finds empty.
func without(x api.Num, c uint64) api.Num {
	if x.ULo == c && c < math.MaxUint64 {
		x.ULo++
	}
	if x.UHi == c && c > 0 {
		x.UHi--
	}
	if signed := int64(c); x.SLo == signed && signed < math.MaxInt64 {
		x.SLo++
	}
	if signed := int64(c); x.SHi == signed && signed > math.MinInt64 {
		x.SHi--
	}
	return x
}

func (p pair) above() (pair, bool) {
	if p.b.ULo == math.MaxUint64 || p.a.UHi == 0 {
		return p, false
	}
	p.a.ULo, p.b.UHi = max(p.a.ULo, p.b.ULo+1), min(p.b.UHi, p.a.UHi-1)
	return p, true
}

func (p pair) notBelow() (pair, bool) {
	p.a.ULo, p.b.UHi = max(p.a.ULo, p.b.ULo), min(p.b.UHi, p.a.UHi)
	return p, true
}

func (p pair) aboveSigned() (pair, bool) {
	if p.b.SLo == math.MaxInt64 || p.a.SHi == math.MinInt64 {
		return p, false
	}
	p.a.SLo, p.b.SHi = max(p.a.SLo, p.b.SLo+1), min(p.b.SHi, p.a.SHi-1)
	return p, true
}

func (p pair) notBelowSigned() (pair, bool) {
	p.a.SLo, p.b.SHi = max(p.a.SLo, p.b.SLo), min(p.b.SHi, p.a.SHi)
	return p, true
}

func (p pair) common() (pair, bool) {
	c, one := num.IsConst(p.b)
	// Of several bits it isn't known which one they have in common.
	if !one || bits.OnesCount64(c) != 1 {
		return p, true
	}
	return p.meet(api.Tnum{Value: c, Mask: ^c})
}

func (p pair) apart() (pair, bool) {
	c, one := num.IsConst(p.b)
	if !one {
		return p, true
	}
	return p.meet(api.Tnum{Mask: ^c})
}

func (p pair) meet(t api.Tnum) (pair, bool) {
	var ok bool
	p.a.Bits, ok = tnum.Meet(p.a.Bits, t)
	return p, ok
}
