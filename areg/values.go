package areg

import (
	"slices"

	"halberd/api"
	"halberd/num"
)

func number(x api.Num) api.Abs {
	return api.Abs{Kind: api.AbsNum, Num: x}
}

func constant(c uint64) api.Abs {
	return number(num.Const(c))
}

// upTo tells a number from 0 on.
func upTo(hi uint64) api.Abs {
	return number(num.Bounds(0, hi))
}

// isPointer is false of a map: it has no offset.
func isPointer(v api.Abs) bool {
	switch v.Kind {
	case api.AbsStack, api.AbsCtx, api.AbsObj, api.AbsSlot, api.AbsRecord:
		return true
	}
	return false
}

// has tells whether a value has an Id, and that one.
func has(v api.Abs, id int) bool {
	switch v.Kind {
	case api.AbsObj, api.AbsSlot, api.AbsRecord:
		return v.Id == id
	}
	return false
}

// newId tells one that nothing has yet.
func (k *known) newId() int {
	id := k.Next
	k.Next++
	return id
}

// all makes something else of all that have an Id, in registers and in places.
func (k *known) all(id int, become func(v api.Abs) api.Abs) {
	for reg, v := range k.Regs {
		if has(v, id) {
			k.Regs[reg] = become(v)
		}
	}
	for at, p := range k.Places {
		if has(p.V, id) {
			k.Places[at] = filled(become(p.V))
		}
	}
}

func (k *known) isHeld(id int) bool {
	return slices.Contains(k.Held, id)
}

// let takes a record from those that are held.
func (k *known) let(id int) {
	k.Held = slices.DeleteFunc(k.Held, func(h int) bool { return h == id })
}
