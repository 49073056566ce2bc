package areg_test

import (
	"math"
	"slices"
	"strconv"
	"testing"

	"halberd/api"
	"halberd/areg"
	"halberd/samples"
	"halberd/steps"
)

// maps has one of each kind, and one that is none.
func maps() bench {
	return bench{hook: api.HookOpen, defs: []api.MapDef{anArray, aHash, inodes, tasks, audits, {Kind: 6}, {}}}
}

// suiting tells a state in which the arguments of a helper suit; nothing is in the registers that it doesn't ask.
func suiting(helper int) api.AState {
	s := begun(regs(1, api.Abs{}, 6, one(6), 7, from(1, 9), 8, context(0)), held(3, 9), next(20))
	full(&s)
	switch helper {
	case 1:
		return with(s, regs(1, aMap(0), 2, stack(-4)))
	case 2:
		return with(s, regs(1, aMap(1), 2, stack(-64), 3, stack(-12), 4, anything()))
	case 3:
		return with(s, regs(1, aMap(1), 2, stack(-2)))
	case 4:
		return with(s, regs(1, aMap(2), 2, inode(4), 3, from(0, 1)))
	case 5:
		return with(s, regs(1, aMap(3), 2, task(4), 3, one(1)))
	case 6:
		return with(s, regs(1, aMap(2), 2, inode(4)))
	case 7:
		return with(s, regs(1, aMap(3), 2, task(4)))
	case 8:
		return with(s, regs(1, aMap(4), 2, one(8)))
	case 9, 10:
		return with(s, regs(1, record(8, 9)))
	case 12:
		return with(s, regs(1, inode(4), 2, stack(-40), 3, one(32)))
	case 13:
		return with(s, regs(1, task(4), 2, anything()))
	}
	return s
}

// called tells a state behind a call that tells a value, and turns nothing else.
func called(s api.AState, v api.Abs) api.AState {
	return with(s, regs(0, v, 1, api.Abs{}, 2, api.Abs{}, 3, api.Abs{}, 4, api.Abs{}, 5, api.Abs{}))
}

func (b bench) calls(t *testing.T, s api.AState, helper int, want api.AState) {
	t.Helper()
	b.tells(t, s, "call "+strconv.Itoa(helper), want)
}

func (b bench) refusesCall(t *testing.T, s api.AState, helper int) {
	t.Helper()
	b.refuses(t, s, "call "+strconv.Itoa(helper))
}

// results has what register 0 has behind each helper's call of what suits.
func results() map[int]api.Abs {
	return map[int]api.Abs{
		1: orNull(slot(0, 20)), 2: anything(), 3: anything(), 4: orNull(slot(2, 20)), 5: orNull(slot(3, 20)), 6: anything(), 7: anything(),
		8: orNull(record(8, 20)), 9: one(0), 10: one(0), 11: anything(), 12: from(0, 32), 13: from(0, 1),
	}
}

func TestCallsOfAllHelpers(t *testing.T) { // P19.5
	b := maps()
	for n, v := range results() {
		s := suiting(n)
		want := called(s, v)
		switch n {
		case 1, 4, 5:
			want.Next = 21
		case 8:
			want.Next, want.Held = 21, []int{3, 9, 20}
		case 9, 10:
			want.Held = []int{3}
		}
		b.calls(t, s, n, want)
		// What is in the registers that aren't asked is nothing to it, but is gone behind it.
		for _, other := range append(others(), one(1)) {
			for r := len(steps.Signs()[n].Args) + 1; r <= 5; r++ {
				b.calls(t, with(s, regs(r, other)), n, want)
			}
			b.calls(t, with(s, regs(0, other)), n, want)
			// Those above 5 stay.
			b.calls(t, with(s, regs(6, other, 9, other)), n, with(want, regs(6, other, 9, other)))
		}
	}
}

func TestHelpersThatAreNotThere(t *testing.T) { // P19.5
	b := maps()
	for _, n := range samples.Outside(1, 13) {
		for helper := range results() {
			got, ok := areg.Call(suiting(helper), n, b.defs)
			if ok || !same(got, api.AState{}) {
				t.Errorf("helper %d: %s", n, difference(got, api.AState{}))
			}
		}
	}
}

// wrong tells for a kind of argument, by its letter, what doesn't suit.
func wrong(letter rune) []api.Abs {
	l := []api.Abs{{}, context(0), context(-40), slot(0, 30), slot(2, 30), orNull(slot(1, 30)), record(8, 3), orNull(record(8, 3))}
	if letter != 'R' {
		l = append(l, record(8, 9))
	}
	numbers := []api.Abs{one(0), one(1), one(math.MaxUint64 - 39), from(1, 32), anything()}
	objects := []api.Abs{at(task(4), 8, 8), at(inode(4), 8, 8), orNull(task(4)), orNull(inode(4)), {Kind: api.AbsObj, Id: 4}, {Kind: api.AbsObj, What: 3, Id: 4}}
	switch letter {
	case 'n':
		numbers = nil
	case 'c':
		numbers = []api.Abs{one(0), one(33), one(256), one(1<<32 + 8), one(math.MaxUint64), one(1 << 63), from(1, 2), from(8, 9), from(1, 32), anything()}
	case 'm':
		numbers = append(numbers, one(4))
	}
	if letter != 'm' {
		l = append(l, aMap(0), aMap(1), aMap(2), aMap(3), aMap(4))
	}
	if letter != 't' {
		objects = append(objects, task(4))
	}
	if letter != 'i' {
		objects = append(objects, inode(4))
	}
	if !slices.Contains([]rune("kvb"), letter) {
		l = append(l, stack(-40), stack(-8), stack(0))
	} else {
		l = append(l, stack(0), stack(-65), stack(8), stack(-4096), stack(4096))
	}
	return slices.Concat(l, numbers, objects)
}

func TestArgumentsThatDoNotSuit(t *testing.T) { // P19.5
	b := maps()
	for n, sign := range steps.Signs() {
		s := suiting(n)
		for k, letter := range sign.Args {
			for _, bad := range wrong(letter) {
				if sign.Args == "R" && bad.Kind == api.AbsRecord && !bad.Null {
					continue
				}
				b.refusesCall(t, with(s, regs(k+1, bad)), n)
				// Another one that suits doesn't mend it, nor does one that doesn't suit either.
				if k > 0 {
					b.refusesCall(t, with(s, regs(1, api.Abs{}, k+1, bad)), n)
				}
			}
		}
	}
}

func TestMapsOfEachKindForEachHelper(t *testing.T) { // P19.5
	suits := map[int][]int{1: {0, 1}, 2: {0, 1}, 3: {1}, 4: {2}, 5: {3}, 6: {2}, 7: {3}, 8: {4}}
	for n, good := range suits {
		for m := range 7 {
			s := with(suiting(n), regs(1, aMap(m)))
			if n == 2 {
				s = with(s, regs(3, stack(-40)))
			}
			if n <= 3 {
				s = with(s, regs(2, stack(-40)))
			}
			got, ok := maps().do(t, s, code(t, "call "+strconv.Itoa(n))...)
			if ok != slices.Contains(good, m) {
				t.Errorf("helper %d of map %d: %v", n, m, ok)
			}
			if v := got.Regs[0]; ok && v.Kind == api.AbsSlot && v.What != m {
				t.Errorf("helper %d of map %d: %s", n, m, textOf(v))
			}
		}
		for _, m := range append(samples.Outside(0, 6), 7, -1) {
			maps().refusesCall(t, with(suiting(n), regs(1, aMap(m))), n)
		}
		for _, defs := range [][]api.MapDef{nil, {}, {{}}, {{Kind: api.MapArray}}} {
			bench{hook: 1, defs: defs}.refusesCall(t, with(suiting(n), regs(1, aMap(1))), n)
		}
	}
}

func TestKeysAndValuesOnTheStack(t *testing.T) { // P19.5
	for key := 1; key <= 8; key++ {
		for _, value := range []int{1, 7, 8, 9, 31, 32} {
			b := bench{hook: 1, defs: []api.MapDef{audits, {Kind: api.MapHash, Key: key, Value: value, Max: 2}}}
			s := with(suiting(2), regs(1, aMap(1)))
			want := called(s, anything())
			for off := -66; off <= 2; off++ {
				for arg, n := range map[int]int{2: key, 3: value} {
					s := with(s, regs(2, stack(-64), 3, stack(-64), arg, stack(off)))
					if off >= -64 && off+n <= 0 {
						b.calls(t, s, 2, want)
					} else {
						b.refusesCall(t, s, 2)
					}
				}
			}
			b.holes(t, with(s, regs(2, stack(-61), 3, stack(-37))), -61, key)
			b.holes(t, with(s, regs(2, stack(-61), 3, stack(-37))), -37, value)
		}
	}
}

// holes calls update with one byte without a value, which n bytes have or haven't, and with places that something fills.
func (b bench) holes(t *testing.T, s api.AState, off, n int) {
	t.Helper()
	want := called(s, anything())
	for hole := max(-64, off-3); hole < min(0, off+n+3); hole++ {
		turn := func(s *api.AState) { s.Places[(hole+64)/8].Have[(hole+64)%8] = false }
		if s := with(s, turn); hole < off || hole >= off+n {
			b.calls(t, s, 2, with(want, turn))
		} else {
			b.refusesCall(t, s, 2)
		}
	}
	for at := off - (off+64)%8; at < off+n; at += 8 {
		for _, v := range fillings() {
			s := with(s, places(at, place(v)))
			if v.Kind == api.AbsNum {
				b.calls(t, s, 2, with(want, places(at, place(v))))
			} else {
				b.refusesCall(t, s, 2)
			}
			// Of no such place bytes have values.
			s.Places[(at+64)/8] = withBytes(v, true)
			if v.Kind != api.AbsNum {
				b.refusesCall(t, s, 2)
			}
		}
	}
}

func TestLookupsByHoles(t *testing.T) { // P19.5
	b := maps()
	for _, helper := range []int{1, 3} {
		s := with(suiting(helper), regs(1, aMap(1), 2, stack(-9)), places(-16, bytesAt(7), -8, bytesAt(0)))
		if _, ok := b.do(t, s, code(t, "call "+strconv.Itoa(helper))...); !ok {
			t.Errorf("helper %d is refused, though its key has values", helper)
		}
		b.refusesCall(t, with(s, places(-16, bytesAt(0, 1, 2, 3, 4, 5, 6))), helper)
		b.refusesCall(t, with(s, places(-8, bytesAt(1, 2, 3, 4, 5, 6, 7))), helper)
		b.refusesCall(t, with(s, places(-8, place(stack(0)))), helper)
		b.refusesCall(t, with(s, places(-16, place(orNull(slot(1, 4))))), helper)
	}
}

func TestObjectsAndRecordsAsArguments(t *testing.T) { // P19.5
	b := maps()
	for n, sign := range steps.Signs() {
		for k, letter := range sign.Args {
			if letter != 'i' && letter != 't' && letter != 'R' {
				continue
			}
			s := suiting(n)
			v := s.Regs[k+1]
			for _, ends := range [][2]int{{0, 1}, {-1, 0}, {-1, 1}, {1, 1}, {-1, -1}, {8, 8}, {4096, 4096}, {-4096, -4096}, {-4096, 4096}} {
				b.refusesCall(t, with(s, regs(k+1, at(v, ends[0], ends[1]))), n)
			}
			b.refusesCall(t, with(s, regs(k+1, orNull(v))), n)
			for _, id := range []int{3, 9, 15} {
				v.Id = id
				_, ok := b.do(t, with(s, regs(k+1, v)), code(t, "call "+strconv.Itoa(n))...)
				if ok != (letter != 'R' || id != 15) {
					t.Errorf("helper %d of the Id %d: %v", n, id, ok)
				}
			}
		}
	}
	for _, n := range []int{9, 10} {
		for _, ids := range [][]int{nil, {3}, {10}, {8, 10}} {
			b.refusesCall(t, with(suiting(n), held(ids...)), n)
		}
	}
}

func TestLengthsOfRecords(t *testing.T) { // P19.5
	b := maps()
	for n := -3; n <= 40; n++ {
		s := with(suiting(8), regs(2, one(uint64(int64(n)))))
		if n >= 1 && n <= 32 {
			b.calls(t, s, 8, with(called(s, orNull(record(n, 20))), held(3, 9, 20), next(21)))
		} else {
			b.refusesCall(t, s, 8)
		}
	}
	// Its bits tell the only number, though its bounds don't yet.
	s := with(suiting(8), regs(2, known(api.Num{Bits: api.Tnum{Value: 5}, ULo: 1, UHi: 9, SLo: -7, SHi: 70})))
	b.calls(t, s, 8, with(called(s, orNull(record(5, 20))), held(3, 9, 20), next(21)))
	s = with(suiting(8), regs(2, known(api.Num{Bits: api.Tnum{Value: 4, Mask: 1}, ULo: 4, UHi: 5, SLo: 4, SHi: 5})))
	b.refusesCall(t, s, 8)
}

func TestRecordsAreHeldInTheirOrder(t *testing.T) { // P19.5
	b := maps()
	s := with(suiting(8), held(), next(1))
	for id := 1; id <= 5; id++ {
		got, _ := b.do(t, s, code(t, "call 8")...)
		// The last one stands in r9, in the place of the one ahead of it.
		s = with(got, regs(1, aMap(4), 2, one(8), 5+min(id, 4), got.Regs[0]))
	}
	if !slices.Equal(s.Held, []int{1, 2, 3, 4, 5}) || s.Next != 6 {
		t.Errorf("held and next are %s", textOfIds(s))
	}
	for _, line := range []string{"jne r7, 0, +0", "jne r9, 0, +0"} {
		s, _, _ = b.jump(t, s, code(t, line)[0], true)
	}
	s, _ = b.do(t, with(s, regs(1, s.Regs[7])), code(t, "call 10")...)
	if !slices.Equal(s.Held, []int{1, 3, 4, 5}) {
		t.Errorf("held behind the second one: %s", textOfIds(s))
	}
	s, _ = b.do(t, with(s, regs(1, s.Regs[9])), code(t, "call 9")...)
	if !slices.Equal(s.Held, []int{1, 3, 4}) {
		t.Errorf("held behind the next one: %s", textOfIds(s))
	}
	s, _ = b.do(t, with(s, regs(1, aMap(4), 2, one(1))), code(t, "call 8")...)
	if s.Held[len(s.Held)-1] != 6 || s.Next != 7 || len(s.Held) != 4 {
		t.Errorf("held behind another one: %s", textOfIds(s))
	}
}

func TestRecordsThatAreSettled(t *testing.T) { // P19.5
	b := maps()
	for _, n := range []int{9, 10} {
		mine, other, object := record(8, 9), record(8, 3), inode(10)
		s := with(suiting(n),
			regs(0, mine, 2, mine, 5, mine, 6, at(mine, 3, 5), 7, other, 8, object, 9, mine),
			places(-64, place(mine), -56, place(other), -48, place(at(mine, -4, -4)), -40, place(object), -32, place(one(9)), -24, nothing(), -16, place(orNull(slot(1, 8)))))
		want := with(called(s, one(0)),
			regs(6, api.Abs{}, 9, api.Abs{}),
			places(-64, nothing(), -48, nothing()), held(3))
		b.calls(t, s, n, want)
		// The other one is held still.
		b.refusesCall(t, with(want, regs(1, mine)), n)
		b.calls(t, with(want, regs(1, other)), n, with(want, regs(1, api.Abs{}, 7, api.Abs{}), places(-56, nothing()), held()))
		for _, ids := range [][2][]int{{{9}, {}}, {{9, 11}, {11}}, {{1, 9}, {1}}, {{1, 3, 9, 11, 12}, {1, 3, 11, 12}}} {
			b.calls(t, with(s, held(ids[0]...)), n, with(want, held(ids[1]...)))
		}
	}
}

func TestBuffersOfPaths(t *testing.T) { // P19.5
	b := maps()
	for _, n := range []int{1, 2, 7, 8, 9, 15, 16, 17, 31, 32} {
		for off := -66; off <= 1; off++ {
			s := with(suiting(12), regs(2, stack(off), 3, one(uint64(n))))
			for p := range s.Places {
				s.Places[p] = []api.APlace{nothing(), place(stack(0)), place(one(7)), bytesAt(1, 6), place(orNull(slot(1, 15))), place(from(1, 2)), place(record(8, 3)), bytesAt(0)}[p]
			}
			if off < -64 || off+n > 0 {
				b.refusesCall(t, s, 12)
				continue
			}
			b.calls(t, s, 12, stored(called(s, from(0, uint64(n))), off, n))
		}
	}
}

func TestBuffersByHand(t *testing.T) { // P19.5
	b := maps()
	s := with(suiting(12), regs(2, stack(-20), 3, one(5)), places(-32, place(one(4)), -24, place(context(0)), -16, place(one(5)), -8, place(one(6))))
	b.calls(t, s, 12, with(called(s, from(0, 5)), places(-24, bytesAt(4, 5, 6, 7), -16, bytesAt(0, 1, 2, 3, 4, 5, 6, 7))))
	// Also a whole place is filled by nothing then.
	s = with(s, regs(2, stack(-16), 3, one(8)))
	b.calls(t, s, 12, with(called(s, from(0, 8)), places(-16, bytesAt(0, 1, 2, 3, 4, 5, 6, 7))))
	s = with(s, regs(2, stack(-24), 3, one(8)))
	b.calls(t, s, 12, with(called(s, from(0, 8)), places(-24, bytesAt(0, 1, 2, 3, 4, 5, 6, 7))))
	s = with(s, regs(2, stack(-1), 3, one(1)))
	b.calls(t, s, 12, with(called(s, from(0, 1)), places(-8, bytesAt(0, 1, 2, 3, 4, 5, 6, 7))))
	b.refusesCall(t, with(s, regs(3, one(2))), 12)
	s = with(s, places(-24, withBytes(context(0), true)), regs(2, stack(-20), 3, one(5)))
	b.calls(t, s, 12, with(called(s, from(0, 5)), places(-24, bytesAt(4, 5, 6, 7), -16, bytesAt(0, 1, 2, 3, 4, 5, 6, 7))))
	for _, n := range []api.Abs{{}, one(0), one(33), from(1, 2), anything(), stack(-8), aMap(0), one(1<<32 + 1), one(math.MaxUint64)} {
		b.refusesCall(t, with(s, regs(2, stack(-64), 3, n)), 12)
	}
}

func TestSlotsByCalls(t *testing.T) { // P19.5
	defs := []api.MapDef{anArray, aHash, {Kind: api.MapHash, Key: 1, Value: 1, Max: 1}, anArray}
	b := bench{hook: 1, defs: defs}
	for m := range defs {
		s := with(suiting(1), regs(1, aMap(m)), next(7+m))
		b.calls(t, s, 1, with(called(s, orNull(slot(m, 7+m))), next(8+m)))
	}
	for kind, helper := range map[int]int{api.MapInode: 4, api.MapTask: 5} {
		b := bench{hook: 1, defs: []api.MapDef{audits, anArray, {Kind: kind, Value: 3, Max: 1}, {Kind: kind, Value: 4, Max: 1}}}
		for _, m := range []int{2, 3} {
			for _, create := range []api.Abs{one(0), one(1), anything()} {
				s := with(suiting(helper), regs(1, aMap(m), 3, create))
				b.calls(t, s, helper, with(called(s, orNull(slot(m, 20))), next(21)))
			}
		}
	}
}
