package vm

import (
	"halberd/api"
	"halberd/isa"
	"halberd/objs"
	"halberd/words"
)

// wordSize is how many bytes a context's word has.
const wordSize = 8

func (r *run) load(i api.Inst) {
	r.regs[i.Dst] = r.loaded(r.pointer(i.Src, i.Off), isa.Size(i.Op))
}

// pointer tells a register's pointer, its offset more by an instruction's.
func (r *run) pointer(reg byte, off int16) value {
	v := r.regs[reg]
	must(v.kind != none, api.TrapRead)
	must(v.isPointer(), api.TrapType)
	v.num += uint64(off)
	return v
}

func (r *run) loaded(p value, size int) value {
	switch p.kind {
	case toStack:
		return r.stack.load(p.num, size)
	case toContext:
		return r.word(p.num, size)
	case toObject:
		x, ok := objs.Load(r.context.Objs[p.which], int64(p.num), size)
		must(ok, api.TrapAccess)
		return numberOf(x)
	}
	b := r.bytes(p)
	x, ok := words.Load(b, index(p.num, len(b)), size)
	must(ok, api.TrapAccess)
	return numberOf(x)
}

func (r *run) word(off uint64, size int) value {
	must(size == wordSize && off%wordSize == 0, api.TrapAccess)
	x, place, ok := objs.Word(r.context, index(off/wordSize, api.Words))
	must(ok, api.TrapAccess)
	if place < 0 {
		return numberOf(x)
	}
	return value{kind: toObject, which: place}
}

// bytes tells those of a slot, or of a held record, themselves; nothing of a record that isn't held any more.
func (r *run) bytes(p value) []byte {
	if p.kind == toSlot {
		b, _ := r.maps.Slot(p.in, p.which)
		return b
	}
	b, _ := r.ring.Record(p.which)
	return b
}

func (r *run) store(i api.Inst, v value) {
	p, size := r.pointer(i.Dst, i.Off), isa.Size(i.Op)
	must(v.kind != none, api.TrapRead)
	switch p.kind {
	case toStack:
		r.stack.store(p.num, size, v)
	case toSlot, toRecord:
		must(v.kind == number, api.TrapType)
		b := r.bytes(p)
		must(words.Store(b, index(p.num, len(b)), size, v.num), api.TrapAccess)
	default:
		panic(trap(api.TrapAccess))
	}
}
