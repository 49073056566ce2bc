package areg_test

import (
	"math"
	"slices"
	"testing"

	"halberd/api"
	"halberd/areg"
	"halberd/samples"
)

// odd draws a number that may be an Id, an offset, a map's number, a length; mostly one that no state has.
func odd(seed *uint64) int {
	ends := samples.Ends()
	switch samples.Below(seed, 4) {
	case 0:
		return ends[samples.Below(seed, len(ends))]
	case 1:
		return int(samples.Draw(seed))
	case 2:
		return samples.Below(seed, 8300) - 4150
	}
	return samples.Below(seed, 80) - 70
}

// oddValue draws one of any kind, with parts that belong to others.
func oddValue(seed *uint64) api.Abs {
	x, _ := samples.Known(seed)
	v := api.Abs{Kind: samples.Below(seed, 9), Num: x, Lo: odd(seed), Hi: odd(seed), What: samples.Below(seed, 6), Null: samples.Below(seed, 2) == 0, Id: samples.Below(seed, 6)}
	switch samples.Below(seed, 5) {
	case 0:
		v.Kind = odd(seed)
	case 1:
		v.What = odd(seed)
	case 2:
		v.Id = odd(seed)
	case 3:
		v.Hi = v.Lo
	}
	return v
}

// oddState draws one of which nearly nothing is as it must be.
func oddState(seed *uint64) api.AState {
	s := api.AState{Next: odd(seed)}
	for r := range s.Regs {
		s.Regs[r] = oddValue(seed)
	}
	for p := range s.Places {
		s.Places[p].V = oddValue(seed)
		for b := range s.Places[p].Have {
			s.Places[p].Have[b] = samples.Below(seed, 3) > 0
		}
	}
	for range samples.Below(seed, 6) {
		s.Held = append(s.Held, odd(seed), samples.Below(seed, 6))
	}
	return s
}

func oddInst(seed *uint64) api.Inst {
	x := samples.Draw(seed)
	i := api.Inst{Op: byte(x), Dst: byte(x >> 8), Src: byte(x >> 16), Off: int16(x >> 24), Imm: int32(x >> 40)}
	if samples.Below(seed, 3) > 0 {
		i.Dst, i.Src = i.Dst%12, i.Src%12
	}
	if samples.Below(seed, 2) > 0 {
		i.Off, i.Imm = i.Off%80, i.Imm%80
	}
	return i
}

func oddDefs(seed *uint64) []api.MapDef {
	var l []api.MapDef
	for range samples.Below(seed, 7) {
		d := api.MapDef{Kind: samples.Below(seed, 7), Key: samples.Below(seed, 10), Value: samples.Below(seed, 34), Max: odd(seed)}
		switch samples.Below(seed, 4) {
		case 0:
			d.Key = odd(seed)
		case 1:
			d.Value = odd(seed)
		case 2:
			d.Kind = odd(seed)
		}
		l = append(l, d)
	}
	return l
}

// answer of a call, its truths as bits.
type answer struct {
	s      api.AState
	truths int
}

func answerOf(s api.AState, truths ...bool) answer {
	a := answer{s: s}
	for k, yes := range truths {
		if yes {
			a.truths |= 1 << k
		}
	}
	return a
}

// question asks one of the package's calls about a state.
type question func(s api.AState) answer

// questions has all calls with an instruction, descriptions, and a number of a hook or of a helper.
func questions(i, j api.Inst, defs []api.MapDef, n int) []question {
	return []question{
		func(s api.AState) answer { s, ok := areg.Op(s, i); return answerOf(s, ok) },
		func(s api.AState) answer { s, ok := areg.Load(s, i, n, defs); return answerOf(s, ok) },
		func(s api.AState) answer { return answerOf(areg.Wide(s, i, j), true) },
		func(s api.AState) answer { s, ok := areg.Store(s, i, defs); return answerOf(s, ok) },
		func(s api.AState) answer { s, ok := areg.Call(s, n, defs); return answerOf(s, ok) },
		func(s api.AState) answer { s, can, ok := areg.Jump(s, i, true); return answerOf(s, can && ok, ok) },
		func(s api.AState) answer { s, can, ok := areg.Jump(s, i, false); return answerOf(s, can && ok, ok) },
		func(s api.AState) answer { return answerOf(api.AState{}, areg.Exit(s, n)) },
	}
}

// holdQuestions asks each, twice, and asks what becomes of what was handed in.
func holdQuestions(t *testing.T, s api.AState, defs []api.MapDef, l []question) {
	t.Helper()
	roomyDefs := append(slices.Clone(defs), api.MapDef{Kind: 77})
	for k, ask := range l {
		in := roomy(s)
		a := ask(in)
		a.s = ownState(a.s)
		unturned(t, in, s)
		if b := ask(s); !same(a.s, b.s) || a.truths != b.truths {
			t.Errorf("call %d tells something else the second time: %s", k, difference(a.s, b.s))
		}
		if a.truths&1 == 0 && !same(a.s, api.AState{}) {
			t.Errorf("call %d tells beside a false: %s", k, difference(a.s, api.AState{}))
		}
		if !slices.Equal(defs, roomyDefs[:len(defs)]) {
			t.Errorf("call %d turns the descriptions: %v", k, defs)
		}
	}
}

func TestStatesThatAreNone(t *testing.T) { // P19.1 to P19.7
	seed := uint64(1)
	numbers := append(samples.Outside(1, 13), samples.UpTo(16)...)
	for range 20000 {
		s, defs := oddState(&seed), oddDefs(&seed)
		i, j := oddInst(&seed), oddInst(&seed)
		holdQuestions(t, s, defs, questions(i, j, defs, numbers[samples.Below(&seed, len(numbers))]))
	}
}

func TestAllOpcodesOfOddInstructions(t *testing.T) { // P19.2 to P19.6
	seed := uint64(2)
	defs := usual().defs
	s := begun(full, regs(0, one(1), 2, slot(0, 4), 3, orNull(record(8, 5)), 4, task(3), 5, aMap(1), 6, anything()), held(5), next(6))
	for op := range 256 {
		for _, dst := range []byte{0, 1, 2, 3, 4, 5, 6, 7, 10, 11, 12, 127, 128, 255} {
			for _, src := range []byte{0, 1, 2, 3, 6, 7, 10, 11, 16, 255} {
				for _, off := range []int16{0, -8, math.MinInt16, math.MaxInt16} {
					i := api.Inst{Op: byte(op), Dst: dst, Src: src, Off: off, Imm: int32(samples.Draw(&seed))}
					for _, ask := range questions(i, i, defs, op) {
						ask(s)
					}
				}
			}
		}
	}
}

func TestNothingIsKeptFromCallToCall(t *testing.T) { // P19.1 to P19.7
	b := usual()
	s := begun(full, regs(1, aMap(3), 2, one(8)), held(1, 4), next(6))
	first, _ := areg.Call(s, 8, b.defs)
	for range 3 {
		got, _ := areg.Call(s, 8, b.defs)
		if !same(got, first) {
			t.Errorf("once more: %s", difference(got, first))
		}
		got.Held[0], got.Regs[0], got.Places[0] = 77, api.Abs{}, api.APlace{}
	}
	if !slices.Equal(s.Held, []int{1, 4}) || !slices.Equal(first.Held, []int{1, 4, 6}) {
		t.Errorf("held: %v, behind the call %v", s.Held, first.Held)
	}
	// Each answer's list is its own, also where nothing becomes of it.
	for _, line := range []string{"mov r3, 1", "map r3, 0", "st8 [r10-8], 1", "ld8 r3, [r10-8]", "call 11"} {
		got, _ := b.ask(s, code(t, line))
		got.Held[0] = 77
		if s.Held[0] != 1 {
			t.Fatalf("%s: what is told is what was handed in", line)
		}
	}
	for _, taken := range []bool{true, false} {
		got, _, _ := areg.Jump(s, code(t, "jset r2, 7, +0")[0], taken)
		if len(got.Held) > 0 {
			got.Held[0] = 77
		}
		if s.Held[0] != 1 {
			t.Fatal("what is told behind a jump is what was handed in")
		}
	}
}

func TestNilAndEmptyAreTheSame(t *testing.T) { // P19.1 to P19.7
	for _, x := range [][]api.MapDef{nil, {}} {
		b := bench{hook: api.HookOpen, defs: x}
		for _, ids := range [][]int{nil, {}, make([]int, 0, 4)} {
			s := begun(regs(0, one(0), 2, slot(0, 1)), next(2))
			s.Held = ids
			b.tells(t, s, "mov r0, 1", with(s, regs(0, one(1))))
			b.tells(t, s, "call 11", called(s, anything()))
			b.refuses(t, s, "ld1 r0, [r2+0]")
			b.goes(t, s, "jeq r0, 0, +0", true, s)
			exits(t, s, b.hook, true)
		}
	}
}
