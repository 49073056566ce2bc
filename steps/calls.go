package steps

import "slices"

// Sign tells a helper's arguments and the kinds of maps that suit it by letters.
type Sign struct{ Args, Maps string }

func Signs() map[int]Sign {
	return map[int]Sign{
		1: {"mk", "ah"}, 2: {"mkvn", "ah"}, 3: {"mk", "h"}, 4: {"min", "i"}, 5: {"mtn", "t"}, 6: {"mi", "i"}, 7: {"mt", "t"},
		8: {"mc", "r"}, 9: {"R", ""}, 10: {"R", ""}, 11: {"", ""}, 12: {"ibc", ""}, 13: {"tn", ""},
	}
}

func (x *Run) call(n int) int {
	s, ok := Signs()[n]
	if !ok {
		return 4
	}
	for i, letter := range s.Args {
		if x.Regs[i+1].What == "" {
			return 1
		}
		if !x.fits(letter, s, i+1) {
			return 4
		}
	}
	got := x.help(n)
	for i := 1; i <= 5; i++ {
		x.Regs[i] = Value{}
	}
	x.Regs[0] = got
	return 0
}

func (x *Run) fits(letter rune, s Sign, reg int) bool {
	v := x.Regs[reg]
	d, _ := x.Maps.Def(x.Regs[1].No)
	switch letter {
	case 'm':
		return v.What == "map" && d.Kind > 0 && slices.Contains([]byte(s.Maps), "?ahitr"[d.Kind])
	case 'k':
		return x.hasBytes(v, d.Key)
	case 'v':
		return x.hasBytes(v, d.Value)
	case 'n':
		return v.What == "num"
	case 'i', 't':
		return v.What == "obj" && v.Off == 0 && x.Context.Objs[v.No].Type == map[rune]int{'t': 1, 'i': 2}[letter]
	case 'c':
		return v.What == "num" && v.Num > 0 && v.Num < 33
	case 'b':
		next := x.Regs[reg+1]
		return v.What == "stack" && next.What == "num" && next.Num > 0 && next.Num < 33 && v.Off >= -64 && v.Off <= -int64(next.Num)
	}
	return v.What == "rec" && v.Off == 0 && slices.Contains(x.Mine, v.No)
}

func (x *Run) hasBytes(v Value, n int) bool {
	if v.What != "stack" || v.Off < -64 || v.Off > int64(-n) {
		return false
	}
	return !slices.ContainsFunc(x.Cells[v.Off+64:][:n], func(c Cell) bool { return c.What != "byte" })
}

// taken tells n bytes of the stack from an argument's on.
func (x *Run) taken(reg, n int) []byte {
	var b []byte
	for _, c := range x.Cells[x.Regs[reg].Off+64:][:n] {
		b = append(b, c.B)
	}
	return b
}

func (x *Run) help(n int) Value {
	m := x.Regs[1].No
	d, _ := x.Maps.Def(m)
	num := func(n int) Value { return Value{What: "num", Num: uint64(int64(n))} }
	slot := func(k int, ok bool) Value {
		if ok {
			return Value{What: "slot", No: m, Slot: k}
		}
		return num(0)
	}
	switch n {
	case 1:
		return slot(x.Maps.Lookup(m, x.taken(2, d.Key)))
	case 2:
		return num(-int(x.Maps.Update(m, x.taken(2, d.Key), x.taken(3, d.Value), x.Regs[4].Num)))
	case 3:
		return num(-int(x.Maps.Delete(m, x.taken(2, d.Key))))
	case 4, 5:
		k, err := x.Maps.Get(m, x.Context.Objs[x.Regs[2].No].Key, x.Regs[3].Num > 0)
		return slot(k, err == 0)
	case 6, 7:
		return num(-int(x.Maps.Drop(m, x.Context.Objs[x.Regs[2].No].Key)))
	}
	return x.helpOn(n, num)
}

// helpOn has the helpers without maps that have slots.
func (x *Run) helpOn(n int, num func(n int) Value) Value {
	arg := x.Regs[1].No
	switch n {
	case 8:
		id, ok := x.Ring.Reserve(x.Owner, int(x.Regs[2].Num))
		if !ok {
			return num(0)
		}
		x.Mine = append(x.Mine, id)
		return Value{What: "rec", No: id}
	case 9, 10:
		x.Mine = slices.DeleteFunc(x.Mine, func(id int) bool { return id == arg })
		if n == 9 {
			x.Ring.Commit(arg)
		} else {
			x.Ring.Discard(arg)
		}
		return num(0)
	case 11:
		return Value{What: "num", Num: x.Context.Now}
	case 12:
		path, size := x.Context.Objs[arg].Path, int(x.Regs[3].Num)
		for k := range size {
			b := byte(0)
			if k < len(path) {
				b = path[k]
			}
			x.lay(int(x.Regs[2].Off)+64+k, b)
		}
		return num(min(size, len(path)))
	}
	for _, up := range x.Context.Objs[arg].Up {
		if up >= 0 && x.Regs[2].Num == uint64(up) {
			return num(1)
		}
	}
	return num(0)
}
