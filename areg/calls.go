package areg

import (
	"halberd/api"
	"halberd/helpers"
	"halberd/num"
)

// call is one that is under way.
type call struct {
	known
	id   int
	defs []api.MapDef
}

// results tells what each helper's call makes of what is known, and its result, by their numbers; its arguments suit.
func results() map[int]func(c *call) api.Abs {
	return map[int]func(c *call) api.Abs{
		1:  (*call).slot,
		2:  (*call).anything,
		3:  (*call).anything,
		4:  (*call).slot,
		5:  (*call).slot,
		6:  (*call).anything,
		7:  (*call).anything,
		8:  (*call).reserve,
		9:  (*call).settle,
		10: (*call).settle,
		11: (*call).anything,
		12: (*call).path,
		13: (*call).inside,
	}
}

func Call(s api.AState, id int, defs []api.MapDef) (api.AState, bool) {
	c := call{known: copied(s), id: id, defs: defs}
	if !c.mayBe() {
		return api.AState{}, false
	}
	v := results()[id](&c)
	clear(c.Regs[arg1 : arg5+1])
	c.Regs[resultReg] = v
	return c.told(true)
}

// mayBe tells whether there is the helper, and all its arguments suit.
func (c *call) mayBe() bool {
	d, ok := helpers.Of(c.id)
	for n, want := range d.Args {
		ok = ok && c.suits(want, arg1+n)
	}
	return ok
}

// suits tells whether a register surely has what is wanted of a helper's argument.
func (c *call) suits(want byte, reg int) bool {
	v := c.Regs[reg]
	switch want {
	case api.ArgMap:
		return v.Kind == api.AbsMap && helpers.Suits(c.id, c.def().Kind)
	case api.ArgKey:
		return c.isKnown(v, c.def().Key)
	case api.ArgValue:
		return c.isKnown(v, c.def().Value)
	case api.ArgNum:
		return v.Kind == api.AbsNum
	case api.ArgInode:
		return isWhole(v, api.AbsObj) && v.What == api.TypeInode
	case api.ArgTask:
		return isWhole(v, api.AbsObj) && v.What == api.TypeTask
	case api.ArgConst:
		_, ok := length(v)
		return ok
	case api.ArgBuf:
		n, ok := length(c.Regs[reg+1])
		_, there := find(v, n)
		return ok && there
	case api.ArgRec:
		return isWhole(v, api.AbsRecord) && c.isHeld(v.Id)
	}
	return false
}

// def describes the map of a call: it is the first argument of each helper that has one.
func (c *call) def() api.MapDef {
	return defOf(c.Regs[arg1], c.defs)
}

// isKnown tells whether a value points to n bytes of the stack that all have values.
func (c *call) isKnown(v api.Abs, n int) bool {
	at, ok := find(v, n)
	return ok && c.haveValues(at, n)
}

// isWhole tells whether a value surely points to the beginning of what it is.
func isWhole(v api.Abs, kind int) bool {
	return v.Kind == kind && !v.Null && v.Lo == 0 && v.Hi == 0
}

// length tells the only number of a value, if it is one of those that a record or a buffer may have.
func length(v api.Abs) (int, bool) {
	// Of several numbers IsConst tells 0, which is none of these either.
	n, _ := num.IsConst(v.Num)
	if v.Kind != api.AbsNum || n < 1 || n > api.MaxValue {
		return 0, false
	}
	return int(n), true
}

func (c *call) anything() api.Abs {
	return number(num.All())
}

func (c *call) slot() api.Abs {
	return api.Abs{Kind: api.AbsSlot, What: c.Regs[arg1].What, Null: true, Id: c.newId()}
}

func (c *call) reserve() api.Abs {
	n, _ := length(c.Regs[arg2])
	id := c.newId()
	c.Held = append(c.Held, id)
	return api.Abs{Kind: api.AbsRecord, What: n, Null: true, Id: id}
}

// settle is of a record that is told, or thrown away: nobody may come to its bytes any more.
func (c *call) settle() api.Abs {
	id := c.Regs[arg1].Id
	c.let(id)
	c.all(id, func(api.Abs) api.Abs { return api.Abs{} })
	return constant(0)
}

func (c *call) path() api.Abs {
	n, _ := length(c.Regs[arg3])
	at, _ := find(c.Regs[arg2], n)
	c.write(at, n)
	return upTo(uint64(n))
}

func (c *call) inside() api.Abs {
	return upTo(1)
}
