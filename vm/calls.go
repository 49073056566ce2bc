package vm

import (
	"slices"

	"halberd/api"
	"halberd/helpers"
	"halberd/objs"
)

// calls tells what each helper does, by their numbers; its arguments suit.
func calls() map[int]func(r *run) value {
	return map[int]func(r *run) value{
		1:  (*run).lookup,
		2:  (*run).update,
		3:  (*run).remove,
		4:  (*run).get,
		5:  (*run).get,
		6:  (*run).drop,
		7:  (*run).drop,
		8:  (*run).reserve,
		9:  (*run).submit,
		10: (*run).discard,
		11: (*run).now,
		12: (*run).path,
		13: (*run).inside,
	}
}

func (r *run) call(n int) {
	d, ok := helpers.Of(n)
	must(ok, api.TrapCall)
	for i, want := range d.Args {
		must(r.regs[arg1+i].kind != none, api.TrapRead)
		must(r.suits(n, want, arg1+i), api.TrapCall)
	}
	result := calls()[n](r)
	clear(r.regs[arg1 : arg5+1])
	r.regs[resultReg] = result
}

// suits tells whether a register has what is wanted of a helper's argument.
func (r *run) suits(n int, want byte, reg int) bool {
	v := r.regs[reg]
	switch want {
	case api.ArgMap:
		return v.kind == aMap && helpers.Suits(n, r.def().Kind)
	case api.ArgKey:
		return r.isKnown(v, r.def().Key)
	case api.ArgValue:
		return r.isKnown(v, r.def().Value)
	case api.ArgNum:
		return v.kind == number
	case api.ArgInode:
		return r.isObject(v, api.TypeInode)
	case api.ArgTask:
		return r.isObject(v, api.TypeTask)
	case api.ArgConst:
		return isConst(v)
	case api.ArgBuf:
		next := r.regs[reg+1]
		return isConst(next) && isOnStack(v, int(next.num))
	case api.ArgRec:
		return v.kind == toRecord && v.num == 0 && slices.Contains(r.held, v.which)
	}
	return false
}

// def describes the map of a call: it is the first argument of each helper that has one.
func (r *run) def() api.MapDef {
	d, _ := r.maps.Def(r.regs[arg1].which)
	return d
}

func isOnStack(v value, n int) bool {
	_, ok := find(v.num, n)
	return v.kind == toStack && ok
}

// isKnown tells whether a value points to n bytes of the stack that all have values.
func (r *run) isKnown(v value, n int) bool {
	at, ok := find(v.num, n)
	return v.kind == toStack && ok && r.stack.known(at, n)
}

func (r *run) isObject(v value, typ int) bool {
	return v.kind == toObject && v.num == 0 && r.context.Objs[v.which].Type == typ
}

func isConst(v value) bool {
	return v.kind == number && v.num >= 1 && v.num <= api.MaxValue
}

// onStack tells n bytes of the stack themselves that an argument points to.
func (r *run) onStack(reg, n int) []byte {
	at, _ := find(r.regs[reg].num, n)
	return r.stack.bytes[at : at+n]
}

// object tells the one that an argument points to.
func (r *run) object(reg int) api.Obj {
	return r.context.Objs[r.regs[reg].which]
}

// errorOf tells an error as helpers do: as a number below 0.
func errorOf(e api.Errno) value {
	return numberOf(uint64(-e))
}

// slot tells a pointer to a slot of the call's map; null without one.
func (r *run) slot(k int, ok bool) value {
	if !ok {
		return numberOf(0)
	}
	return value{kind: toSlot, in: r.regs[arg1].which, which: k}
}

func (r *run) lookup() value {
	k, ok := r.maps.Lookup(r.regs[arg1].which, r.onStack(arg2, r.def().Key))
	return r.slot(k, ok)
}

func (r *run) update() value {
	d := r.def()
	return errorOf(r.maps.Update(r.regs[arg1].which, r.onStack(arg2, d.Key), r.onStack(arg3, d.Value), r.regs[arg4].num))
}

func (r *run) remove() value {
	return errorOf(r.maps.Delete(r.regs[arg1].which, r.onStack(arg2, r.def().Key)))
}

func (r *run) get() value {
	k, err := r.maps.Get(r.regs[arg1].which, objs.Key(r.object(arg2)), r.regs[arg3].num != 0)
	return r.slot(k, err == api.OK)
}

func (r *run) drop() value {
	return errorOf(r.maps.Drop(r.regs[arg1].which, objs.Key(r.object(arg2))))
}

func (r *run) reserve() value {
	id, ok := r.ring.Reserve(r.owner, int(r.regs[arg2].num))
	if !ok {
		return numberOf(0)
	}
	r.held = append(r.held, id)
	return value{kind: toRecord, which: id}
}

func (r *run) submit() value {
	r.ring.Commit(r.let())
	return numberOf(0)
}

func (r *run) discard() value {
	r.ring.Discard(r.let())
	return numberOf(0)
}

// let takes the call's record from those that are held.
func (r *run) let() int {
	id := r.regs[arg1].which
	r.held = slices.DeleteFunc(r.held, func(h int) bool { return h == id })
	return id
}

func (r *run) now() value {
	return numberOf(r.context.Now)
}

func (r *run) path() value {
	n := int(r.regs[arg3].num)
	at, _ := find(r.regs[arg2].num, n)
	b, long := objs.Path(r.object(arg1), n)
	r.stack.write(at, b)
	return numberOf(uint64(long))
}

func (r *run) inside() value {
	if objs.Inside(r.object(arg1), r.regs[arg2].num) {
		return numberOf(1)
	}
	return numberOf(0)
}
