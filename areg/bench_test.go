package areg_test

import (
	"slices"
	"strconv"
	"strings"
	"testing"

	"halberd/api"
	"halberd/areg"
	"halberd/asm"
	"halberd/num"
)

// bench is what states are told for.
type bench struct {
	hook int
	defs []api.MapDef
}

// Maps of each kind.
var (
	anArray = api.MapDef{Kind: api.MapArray, Key: 4, Value: 8, Max: 2}
	aHash   = api.MapDef{Kind: api.MapHash, Key: 2, Value: 12, Max: 2}
	inodes  = api.MapDef{Kind: api.MapInode, Value: 32, Max: 1}
	tasks   = api.MapDef{Kind: api.MapTask, Value: 1, Max: 2}
	audits  = api.MapDef{Kind: api.MapRing}
)

// usual has a hook with words of each kind but a second task, and an array, a hash, a storage of inodes and a ring.
func usual() bench {
	return bench{hook: api.HookRename, defs: []api.MapDef{anArray, aHash, inodes, audits}}
}

// Values of each kind.
func one(c uint64) api.Abs              { return known(num.Const(c)) }
func from(lo, hi uint64) api.Abs        { return known(num.Bounds(lo, hi)) }
func anything() api.Abs                 { return known(num.All()) }
func stack(at int) api.Abs              { return api.Abs{Kind: api.AbsStack, Lo: at, Hi: at} }
func context(at int) api.Abs            { return api.Abs{Kind: api.AbsCtx, Lo: at, Hi: at} }
func task(id int) api.Abs               { return api.Abs{Kind: api.AbsObj, What: api.TypeTask, Id: id} }
func inode(id int) api.Abs              { return api.Abs{Kind: api.AbsObj, What: api.TypeInode, Id: id} }
func slot(m, id int) api.Abs            { return api.Abs{Kind: api.AbsSlot, What: m, Id: id} }
func record(n, id int) api.Abs          { return api.Abs{Kind: api.AbsRecord, What: n, Id: id} }
func aMap(m int) api.Abs                { return api.Abs{Kind: api.AbsMap, What: m} }
func at(v api.Abs, lo, hi int) api.Abs  { v.Lo, v.Hi = lo, hi; return v }
func orNull(v api.Abs) api.Abs          { v.Null = true; return v }
func place(v api.Abs) api.APlace        { return withBytes(v, v.Kind == api.AbsNum) }
func nothing() api.APlace               { return api.APlace{} }
func bytesAt(l ...int) (p api.APlace)   { return withSome(p, l) }
func regs(l ...any) func(*api.AState)   { return func(s *api.AState) { setRegs(s, l) } }
func places(l ...any) func(*api.AState) { return func(s *api.AState) { setPlaces(s, l) } }

func withBytes(v api.Abs, have bool) api.APlace {
	p := api.APlace{V: v}
	for b := range p.Have {
		p.Have[b] = have
	}
	return p
}

func withSome(p api.APlace, l []int) api.APlace {
	for _, b := range l {
		p.Have[b] = true
	}
	return p
}

// setRegs is given numbers of registers, and behind each its value.
func setRegs(s *api.AState, l []any) {
	for k := 0; k < len(l); k += 2 {
		s.Regs[l[k].(int)] = l[k+1].(api.Abs)
	}
}

// setPlaces is given offsets of places, and behind each what it has.
func setPlaces(s *api.AState, l []any) {
	for k := 0; k < len(l); k += 2 {
		s.Places[(l[k].(int)+64)/8] = l[k+1].(api.APlace)
	}
}

func held(ids ...int) func(*api.AState) { return func(s *api.AState) { s.Held = ids } }
func next(id int) func(*api.AState)     { return func(s *api.AState) { s.Next = id } }

// with tells another state, with something else.
func with(s api.AState, turns ...func(*api.AState)) api.AState {
	s.Held = slices.Clone(s.Held)
	for _, turn := range turns {
		turn(&s)
	}
	return s
}

// begun tells the one at the beginning, with something else.
func begun(turns ...func(*api.AState)) api.AState {
	s := api.AState{Next: 1}
	s.Regs[1], s.Regs[10] = context(0), stack(0)
	return with(s, turns...)
}

// code reads lines, between which there is a semicolon.
func code(t *testing.T, lines string) []api.Inst {
	t.Helper()
	l, err := asm.Read(strings.ReplaceAll(lines, "; ", "\n"))
	if err != api.OK {
		t.Fatalf("no code: %q", lines)
	}
	return l
}

func same(a, b api.AState) bool {
	return a.Regs == b.Regs && a.Places == b.Places && a.Next == b.Next && slices.Equal(a.Held, b.Held)
}

// difference tells what isn't the same in two states.
func difference(got, want api.AState) string {
	var l []string
	for r, v := range got.Regs {
		if v != want.Regs[r] {
			l = append(l, "r"+strconv.Itoa(r)+" is "+textOf(v)+", not "+textOf(want.Regs[r]))
		}
	}
	for p, v := range got.Places {
		if v != want.Places[p] {
			l = append(l, "["+strconv.Itoa(8*p-64)+"] is "+textOfPlace(v)+", not "+textOfPlace(want.Places[p]))
		}
	}
	if !slices.Equal(got.Held, want.Held) || got.Next != want.Next {
		l = append(l, "held and next are "+textOfIds(got)+", not "+textOfIds(want))
	}
	return strings.Join(l, "; ")
}

func textOf(v api.Abs) string {
	n := v.Num
	number := strconv.FormatUint(n.ULo, 10) + ".." + strconv.FormatUint(n.UHi, 10) + " " + strconv.FormatInt(n.SLo, 10) + ".." + strconv.FormatInt(n.SHi, 10) +
		" " + strconv.FormatUint(n.Bits.Value, 16) + "/" + strconv.FormatUint(n.Bits.Mask, 16)
	return "{" + strconv.Itoa(v.Kind) + " " + number + " " + strconv.Itoa(v.Lo) + ".." + strconv.Itoa(v.Hi) + " of " + strconv.Itoa(v.What) + " " + strconv.FormatBool(v.Null) + " #" + strconv.Itoa(v.Id) + "}"
}

func textOfPlace(p api.APlace) string {
	s := textOf(p.V)
	for _, have := range p.Have {
		s += map[bool]string{true: "b", false: "-"}[have]
	}
	return s
}

func textOfIds(s api.AState) string {
	var l []string
	for _, id := range s.Held {
		l = append(l, strconv.Itoa(id))
	}
	return strings.Join(l, ",") + " and " + strconv.Itoa(s.Next)
}

// textOfInst tells an instruction as text, where it has one.
func textOfInst(l ...api.Inst) string {
	s, err := asm.Text(l)
	if err != api.OK {
		return "an instruction that has no text"
	}
	return strings.ReplaceAll(strings.TrimSpace(s), "\n", "; ")
}

// roomy tells the same state, whose list has room behind it, with something there.
func roomy(s api.AState) api.AState {
	s.Held = append(slices.Clone(s.Held), -7, -8, -9)[:len(s.Held)]
	return s
}

// unturned asks whether a state that roomy has told is as it was, with the room behind its list.
func unturned(t *testing.T, s, was api.AState) {
	t.Helper()
	if !same(s, was) || !slices.Equal(s.Held[:len(s.Held)+3][len(s.Held):], []int{-7, -8, -9}) {
		t.Errorf("what is handed in was turned: %s", difference(s, was))
	}
}

// ownState tells a copy of an answer, and writes over the answer's own list, which nobody else may have.
func ownState(s api.AState) api.AState {
	own := s
	own.Held = slices.Clone(s.Held)
	for k := range s.Held[:cap(s.Held)] {
		s.Held[:cap(s.Held)][k] = -1
	}
	return own
}

// do tells what is known behind an instruction that is no jump, and holds it against what is told once more.
func (b bench) do(t *testing.T, s api.AState, l ...api.Inst) (api.AState, bool) {
	t.Helper()
	in, defs := roomy(s), slices.Clone(b.defs)
	got, ok := b.ask(in, l)
	got = ownState(got)
	unturned(t, in, s)
	if !slices.Equal(b.defs, defs) {
		t.Errorf("%s: the maps' descriptions were turned", textOfInst(l...))
	}
	k := toldOf(s, b.hook, b.defs)
	want, wanted := api.AState{}, k.do(l[0], l[len(l)-1])
	if wanted {
		want = k.state()
	}
	if ok != wanted || !same(got, want) {
		t.Fatalf("%s: %v, not %v: %s", textOfInst(l...), ok, wanted, difference(got, want))
	}
	return got, ok
}

// ask calls what an instruction that is no jump is told by.
func (b bench) ask(s api.AState, l []api.Inst) (api.AState, bool) {
	switch i := l[0]; i.Op & 7 {
	case api.ClassLd:
		return areg.Wide(s, i, l[1]), true
	case api.ClassLdx:
		return areg.Load(s, i, b.hook, b.defs)
	case api.ClassSt, api.ClassStx:
		return areg.Store(s, i, b.defs)
	case api.ClassJmp:
		return areg.Call(s, int(i.Imm), b.defs)
	default:
		return areg.Op(s, i)
	}
}

// jump tells what is known behind one, and holds it against what is told once more.
func (b bench) jump(t *testing.T, s api.AState, i api.Inst, taken bool) (api.AState, bool, bool) {
	t.Helper()
	in := roomy(s)
	got, can, ok := areg.Jump(in, i, taken)
	got = ownState(got)
	unturned(t, in, s)
	k := toldOf(s, b.hook, b.defs)
	want := api.AState{}
	wantCan, wanted := k.jump(i, taken)
	if wantCan && wanted {
		want = k.state()
	}
	if can != wantCan || ok != wanted || !same(got, want) {
		t.Fatalf("%s, taken %v: %v, %v, not %v, %v: %s", textOfInst(i), taken, can, ok, wantCan, wanted, difference(got, want))
	}
	return got, can, ok
}

// tells asks for what is known behind a line.
func (b bench) tells(t *testing.T, s api.AState, line string, want api.AState) {
	t.Helper()
	got, ok := b.do(t, s, code(t, line)...)
	if !ok || !same(got, want) {
		t.Errorf("%s: %v: %s", line, ok, difference(got, want))
	}
}

// refuses asks whether a line is refused.
func (b bench) refuses(t *testing.T, s api.AState, line string) {
	t.Helper()
	got, ok := b.do(t, s, code(t, line)...)
	if ok || !same(got, api.AState{}) {
		t.Errorf("%s: %v: %s", line, ok, difference(got, api.AState{}))
	}
}

// goes asks for what is known behind a jump's way, which can be.
func (b bench) goes(t *testing.T, s api.AState, line string, taken bool, want api.AState) {
	t.Helper()
	got, can, ok := b.jump(t, s, code(t, line)[0], taken)
	if !can || !ok || !same(got, want) {
		t.Errorf("%s, taken %v: %v, %v: %s", line, taken, can, ok, difference(got, want))
	}
}

// cannot asks whether a jump's way can't be, but isn't refused.
func (b bench) cannot(t *testing.T, s api.AState, line string, taken bool) {
	t.Helper()
	got, can, ok := b.jump(t, s, code(t, line)[0], taken)
	if can || !ok || !same(got, api.AState{}) {
		t.Errorf("%s, taken %v: %v, %v: %s", line, taken, can, ok, difference(got, api.AState{}))
	}
}

// bars asks whether both ways of a jump are refused.
func (b bench) bars(t *testing.T, s api.AState, line string) {
	t.Helper()
	for _, taken := range []bool{true, false} {
		got, can, ok := b.jump(t, s, code(t, line)[0], taken)
		if can || ok || !same(got, api.AState{}) {
			t.Errorf("%s, taken %v: %v, %v: %s", line, taken, can, ok, difference(got, api.AState{}))
		}
	}
}
