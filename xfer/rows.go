package xfer

import (
	"math"
	"math/bits"

	"halberd/api"
	"halberd/num"
	"halberd/tnum"
)

// row tells what the chapter's table says of an operation's result.
type row func(p pair) result

func rows() map[byte]row {
	return map[byte]row{
		api.Add:  pair.add,
		api.Sub:  pair.sub,
		api.Mul:  pair.mul,
		api.Div:  pair.div,
		api.Or:   pair.or,
		api.And:  pair.and,
		api.Lsh:  pair.lsh,
		api.Rsh:  pair.rsh,
		api.Neg:  func(p pair) result { return pair{Num: num.Const(0), b: p.Num}.sub() },
		api.Mod:  pair.mod,
		api.Xor:  pair.xor,
		api.Mov:  func(p pair) result { return result{p.b} },
		api.Arsh: pair.arsh,
	}
}

func rowOf(op byte, wide bool) (row, bool) {
	says, ok := rows()[op]
	if op == api.Arsh && !wide {
		// Its sign is bit 31, but bounds and patterns are shifted with bit 63.
		says = func(pair) result { return unknown() }
	}
	return says, ok
}

func (p pair) add() result {
	r := unknown()
	r.Bits = tnum.Add(p.Bits, p.b.Bits)
	if hi, over := bits.Add64(p.UHi, p.b.UHi, 0); over == 0 {
		r.ULo, r.UHi = p.ULo+p.b.ULo, hi
	}
	lo, loFits := sum(p.SLo, p.b.SLo)
	hi, hiFits := sum(p.SHi, p.b.SHi)
	if loFits && hiFits {
		r.SLo, r.SHi = lo, hi
	}
	return r
}

func (p pair) sub() result {
	r := unknown()
	r.Bits = tnum.Sub(p.Bits, p.b.Bits)
	if p.ULo >= p.b.UHi {
		r.ULo, r.UHi = p.ULo-p.b.UHi, p.UHi-p.b.ULo
	}
	lo, loFits := difference(p.SLo, p.b.SHi)
	hi, hiFits := difference(p.SHi, p.b.SLo)
	if loFits && hiFits {
		r.SLo, r.SHi = lo, hi
	}
	return r
}

// sum tells whether it doesn't go over, too; so does difference.
func sum(x, y int64) (int64, bool) {
	z := x + y
	return z, (z < x) == (y < 0)
}

func difference(x, y int64) (int64, bool) {
	z := x - y
	return z, (z < x) == (y > 0)
}

func (p pair) mul() result {
	r := unknown()
	if p.UHi <= math.MaxUint32 && p.b.UHi <= math.MaxUint32 {
		r.ULo, r.UHi = p.ULo*p.b.ULo, p.UHi*p.b.UHi
	}
	return r
}

func (p pair) div() result {
	r := unknown()
	// Neither a quotient nor a rest is above what is divided, not even by 0.
	r.UHi = p.UHi
	if p.c > 0 {
		r.ULo, r.UHi = p.ULo/p.c, p.UHi/p.c
	}
	return r
}

func (p pair) mod() result {
	r := unknown()
	r.UHi = p.UHi
	if p.c > 0 {
		r.UHi = min(p.UHi, p.c-1)
	}
	return r
}

func (p pair) and() result {
	r := unknown()
	r.Bits = tnum.And(p.Bits, p.b.Bits)
	r.UHi = min(p.UHi, p.b.UHi)
	return r
}

func (p pair) or() result {
	r := unknown()
	r.Bits = tnum.Or(p.Bits, p.b.Bits)
	r.ULo = max(p.ULo, p.b.ULo)
	return r
}

func (p pair) xor() result {
	r := unknown()
	r.Bits = tnum.Xor(p.Bits, p.b.Bits)
	return r
}

func (p pair) lsh() result {
	r := unknown()
	if !p.one {
		return r
	}
	r.Bits = tnum.Lsh(p.Bits, p.k)
	// Where k is 0, all 64 bits are shifted away, so that 0 is left there, too.
	if p.UHi>>(64-p.k) == 0 {
		r.ULo, r.UHi = p.ULo<<p.k, p.UHi<<p.k
	}
	return r
}

func (p pair) rsh() result {
	r := unknown()
	if !p.one {
		r.UHi = p.UHi
		return r
	}
	r.Bits = tnum.Rsh(p.Bits, p.k)
	r.ULo, r.UHi = p.ULo>>p.k, p.UHi>>p.k
	return r
}

func (p pair) arsh() result {
	r := unknown()
	if !p.one {
		// Shifted by whatever, a number comes closer to 0, or to -1.
		r.SLo, r.SHi = min(p.SLo, 0), max(p.SHi, -1)
		return r
	}
	r.Bits = tnum.Arsh(p.Bits, p.k)
	r.SLo, r.SHi = p.SLo>>p.k, p.SHi>>p.k
	return r
}
