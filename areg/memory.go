package areg

import (
	"halberd/api"
	"halberd/hooks"
	"halberd/isa"
	"halberd/num"
	"halberd/words"
)

// wordSize is how many bytes a context's word has, and an object's field.
const wordSize = 8

func Load(s api.AState, i api.Inst, hook int, defs []api.MapDef) (api.AState, bool) {
	k := copied(s)
	v, ok := k.loaded(i, hook, defs)
	return k.told(ok && k.set(i.Dst, v))
}

// loaded tells what an instruction loads; false where it is refused.
func (k *known) loaded(i api.Inst, hook int, defs []api.MapDef) (api.Abs, bool) {
	n := isa.Size(i.Op)
	if n == 0 || i.Op&classBits != api.ClassLdx {
		return api.Abs{}, false
	}
	p := k.pointer(i.Src, i.Off)
	switch p.Kind {
	case api.AbsStack:
		return k.fromStack(p, n)
	case api.AbsCtx:
		return k.fromContext(p, n, hook)
	}
	return unsigned(n), k.hasBytes(p, n, defs)
}

// unsigned tells a number of n bytes.
func unsigned(n int) api.Abs {
	return upTo(words.Low(8 * n))
}

// pointer tells a register's value, its offset more by an instruction's; none of what may be null, as that has no bytes.
func (k *known) pointer(reg byte, off int16) api.Abs {
	v := k.value(reg)
	if v.Null {
		return api.Abs{}
	}
	v.Lo += int(off)
	v.Hi += int(off)
	return v
}

func (k *known) fromContext(p api.Abs, n, hook int) (api.Abs, bool) {
	// Of two offsets it wouldn't be known which word it is.
	if n != wordSize || p.Lo != p.Hi || p.Lo%wordSize != 0 {
		return api.Abs{}, false
	}
	kind, ok := hooks.Kind(hook, p.Lo/wordSize)
	if !ok {
		return api.Abs{}, false
	}
	if kind == api.WordNum {
		return number(num.All()), true
	}
	typ := api.TypeTask
	if kind&^api.MayBeNull == api.WordInode {
		typ = api.TypeInode
	}
	return api.Abs{Kind: api.AbsObj, What: typ, Null: kind&api.MayBeNull != 0, Id: k.newId()}, true
}

// hasBytes tells whether n bytes are there, at whichever offset they may be, of an object, a slot or a held record.
func (k *known) hasBytes(p api.Abs, n int, defs []api.MapDef) bool {
	return p.Lo >= 0 && p.Hi+n <= k.size(p, defs)
}

// size tells how many bytes an object, a slot or a held record has.
func (k *known) size(p api.Abs, defs []api.MapDef) int {
	switch p.Kind {
	case api.AbsObj:
		return api.Words * wordSize
	case api.AbsSlot:
		return defOf(p, defs).Value
	case api.AbsRecord:
		if k.isHeld(p.Id) {
			return p.What
		}
	}
	return 0
}

// defOf describes the map that a value tells; nothing of one that isn't there.
func defOf(v api.Abs, defs []api.MapDef) api.MapDef {
	if v.What < 0 || v.What >= len(defs) {
		return api.MapDef{}
	}
	return defs[v.What]
}

func Store(s api.AState, i api.Inst, defs []api.MapDef) (api.AState, bool) {
	k := copied(s)
	return k.told(k.stored(i, defs))
}

// stored answers whether an instruction that stores isn't refused.
func (k *known) stored(i api.Inst, defs []api.MapDef) bool {
	n, v := isa.Size(i.Op), k.source(i)
	if n == 0 || v.Kind == api.AbsNone {
		return false
	}
	p := k.pointer(i.Dst, i.Off)
	switch p.Kind {
	case api.AbsStack:
		return k.toStack(p, n, v)
	case api.AbsSlot, api.AbsRecord:
		// What is in them isn't known, so nothing is known better or less behind it.
		return v.Kind == api.AbsNum && k.hasBytes(p, n, defs)
	}
	return false
}

// source tells what an instruction stores; nothing of one that doesn't store.
func (k *known) source(i api.Inst) api.Abs {
	switch i.Op & classBits {
	case api.ClassSt:
		return constant(uint64(i.Imm))
	case api.ClassStx:
		return k.value(i.Src)
	}
	return api.Abs{}
}
