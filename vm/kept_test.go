package vm

import (
	"bytes"
	"reflect"
	"slices"
	"strconv"
	"strings"
	"testing"

	"halberd/api"
	"halberd/ring"
	"halberd/samples"
)

// filled has a ring with a record in each state, of two owners, and something in each map.
func filled(t *testing.T) *bench {
	t.Helper()
	b := usual(t)
	for k, end := range []func(id int) bool{b.r.Commit, b.r.Discard, func(int) bool { return true }, b.r.Commit} {
		id, _ := b.r.Reserve(5+k%2, 3+k)
		data, _ := b.r.Record(id)
		for i := range data {
			data[i] = byte(10*k + i + 1)
		}
		end(id)
	}
	b.o.Update(0, []byte{1, 0, 0, 0}, []byte("12345678"), 0)
	b.o.Update(1, []byte("ab"), []byte("1234"), 0)
	b.o.Get(2, api.Key{Id: 77, Gen: 1}, true)
	return b
}

// ending is lines, and the trap that they end with.
type ending struct {
	lines string
	trap  int
}

// endings has each way to end, some with records that are held, told and thrown away.
func endings() []ending {
	one := "mov r9, r1; map r1, 3; mov r2, 5; call 8; mov r6, r0; "
	return []ending{
		{"mov r0, 1; exit", api.TrapNone},
		{one + "st2 [r6+0], 513; mov r1, r6; call 9; exit", api.TrapNone},
		{one + "st2 [r6+0], 513; mov r1, r6; call 10; exit", api.TrapNone},
		{one + "map r1, 3; mov r2, 1; call 8; mov r1, r0; call 9; mov r0, 0; exit", api.TrapLeak},
		{one + "mov r0, 0; exit", api.TrapLeak},
		{one + "exit", api.TrapType},
		{one + "mov r0, r2; exit", api.TrapRead},
		{one + "st8 [r6+0], 1; exit", api.TrapAccess},
		{one + "st1 [r9+0], 1; exit", api.TrapAccess},
		{one + "st1 [r6-1], 1; exit", api.TrapAccess},
		{one + "call 99; exit", api.TrapCall},
		{one + "mov r1, 0; call 9; exit", api.TrapCall},
		{one + "mov r1, r6; call 9; call 9; exit", api.TrapRead},
		{one + "map r1, 3; mov r2, 5; call 8; st1 [r0+4], 7; mov r0, 0; exit", api.TrapLeak},
		{one + "map r1, 3; mov r2, 32; call 8; mov r1, r6; call 10; call 11; exit", api.TrapLeak},
		{one + "add32 r6, 1; exit", api.TrapType},
		{one + "jgt r6, 0, +0; exit", api.TrapType},
		{"exit", api.TrapRead},
		{"st8 [r10-8], 7; ld8 r0, [r10-12]; exit", api.TrapRead},
		{"ld8 r6, [r1+0]; st8 [r6+0], 1; exit", api.TrapAccess},
		{"ld8 r6, [r1+8]; st1 [r6+9], 1; exit", api.TrapAccess},
		{"ld8 r6, [r1+32]; exit", api.TrapAccess},
		{"ld8 r2, [r1+8]; map r1, 2; mov r3, 1; call 4; exit", api.TrapNone},
		{"st4 [r10-4], 1; map r1, 0; mov r2, r10; add r2, -4; call 1; exit", api.TrapType},
		{"st4 [r10-4], 1; map r1, 0; mov r2, r10; add r2, -4; call 1; st8 [r0+0], 3; mov r0, 9; exit", api.TrapNone},
		{"ld8 r1, [r1+8]; mov r2, r10; add r2, -32; mov r3, 32; call 12; exit", api.TrapNone},
		{"ld8 r1, [r1+0]; mov r2, 11; call 13; exit", api.TrapNone},
		{"st4 [r10-4], 25185; map r1, 1; mov r2, r10; add r2, -4; call 3; exit", api.TrapNone},
		{"st8 [r10-8], 97; map r1, 1; mov r2, r10; add r2, -8; mov r3, r2; mov r4, 0; call 2; exit", api.TrapNone},
	}
}

func TestWhatWasInTheRingStays(t *testing.T) { // P18.2
	for _, e := range endings() {
		lines, trap := e.lines, e.trap
		b := filled(t)
		was, used, drops, held := b.r.Bytes(), b.r.Used(), b.r.Drops(), b.r.Held()
		if got := b.run(t, code(t, lines)); got.Trap != trap {
			t.Errorf("%q: %+v, not trap %d", lines, got, trap)
		}
		now := b.r.Bytes()
		if !bytes.HasPrefix(now, was) || b.r.Drops() != drops || b.r.Used() < used {
			t.Errorf("%q: %q was %q", lines, now, was)
		}
		// The record that was held ahead of the run is the only one.
		if !slices.Equal(b.r.Held(), held) || len(held) != 1 {
			t.Errorf("%q: held: %v, not %v", lines, b.r.Held(), held)
		}
		if trap != api.TrapNone {
			onlyThrownAway(t, lines, now[len(was):])
		}
		// Behind the one that is held all that was told is drained.
		b.r.Commit(held[0])
		l := b.r.Drain()
		if len(l) < 3 || string(l[0].Data) != "\x01\x02\x03" || l[0].Owner != 5 || string(l[1].Data) != "\x15\x16\x17\x18\x19" || string(l[2].Data) != "\x1f\x20\x21\x22\x23\x24" || l[2].Owner != 6 {
			t.Errorf("%q: drained: %v", lines, l)
		}
	}
}

// onlyThrownAway asks the records behind a ring's end: of a run that trapped none is held, and those that it told are told.
func onlyThrownAway(t *testing.T, lines string, b []byte) {
	t.Helper()
	told := strings.Count(lines, "call 9;")
	for len(b) > 0 {
		switch b[2] {
		case 0:
			t.Errorf("%q: record %d is held", lines, b[0])
		case 1:
			told--
		}
		if b[1] != 5 {
			t.Errorf("%q: record %d is of owner %d", lines, b[0], b[1])
		}
		b = b[4+int(b[3]):]
	}
	if told > 1 {
		t.Errorf("%q: of those that were told %d aren't", lines, told)
	}
}

func TestATrapThrowsAwayWhatIsHeld(t *testing.T) { // P18.1, P18.2
	b := usual(t)
	three := "map r1, 3; mov r2, 1; call 8; mov r6, r0; st1 [r6+0], 1; map r1, 3; mov r2, 2; call 8; mov r7, r0; st1 [r7+0], 2; map r1, 3; mov r2, 3; call 8; st1 [r0+0], 3; "
	b.traps(t, three+"mov r1, r7; call 9; mov r0, r1; exit", api.TrapRead, 17)
	if want := "\x00\x05\x02\x01\x01" + "\x01\x05\x01\x02\x02\x00" + "\x02\x05\x02\x03\x03\x00\x00"; string(b.r.Bytes()) != want {
		t.Errorf("left: %q", b.r.Bytes())
	}
	if l := b.r.Drain(); len(l) != 1 || string(l[0].Data) != "\x02\x00" || b.r.Used() != 0 {
		t.Errorf("drained: %v", l)
	}
	// The next run's records have other numbers.
	b.tells(t, "map r1, 3; mov r2, 1; call 8; mov r1, r0; call 9; exit", 0, 6)
	if string(b.r.Bytes()) != "\x03\x05\x01\x01\x00" {
		t.Errorf("left: %q", b.r.Bytes())
	}
}

func TestMapsKeepWhatATrapLeaves(t *testing.T) { // P18.1, P18.2
	b := filled(t)
	// What a run has done to its maps ahead of a trap stays.
	b.traps(t, "st4 [r10-4], 1; map r1, 0; mov r2, r10; add r2, -4; call 1; st1 [r0+0], 65; mov r0, r5; exit", api.TrapRead, 7)
	b.traps(t, "ld8 r2, [r1+8]; map r1, 2; mov r3, 1; call 4; ld1 r0, [r0+0]; exit", api.TrapType, 5)
	if x, _ := b.o.Slot(0, 1); string(x) != "A2345678" {
		t.Errorf("slot 1: %q", x)
	}
	b.traps(t, "st2 [r10-2], 25185; map r1, 1; mov r2, r10; add r2, -2; call 3; mov r0, r10; exit", api.TrapType, 7)
	if _, ok := b.o.Lookup(1, []byte("ab")); ok {
		t.Error("the key is there yet")
	}
}

func TestWhatIsHandedInStaysAsItIs(t *testing.T) { // P18.2
	for _, e := range endings() {
		for _, c := range samples.AllContexts() {
			b := filled(t)
			b.c = c
			b.c.Objs = append(slices.Clone(c.Objs), samples.Inode(3), samples.Task(3))[:len(c.Objs)]
			for i := range b.c.Objs {
				b.c.Objs[i].Up = append(slices.Clone(b.c.Objs[i].Up), 8, 9)[:len(b.c.Objs[i].Up)]
			}
			l := withRoom(code(t, e.lines))
			was, room := samples.DeepContext(b.c), slices.Clone(l[:cap(l)])
			b.run(t, l)
			if !reflect.DeepEqual(samples.DeepContext(b.c), was) || !slices.Equal(l[:cap(l)], room) {
				t.Fatalf("%q: what was handed in is turned", e.lines)
			}
		}
	}
}

func TestNothingIsKeptOfWhatWasHandedIn(t *testing.T) { // P18.2
	lines := "ld8 r6, [r1+8]; mov r9, r1; mov r2, r6; map r1, 2; mov r3, 1; call 4; mov r7, r0; map r1, 3; mov r2, 8; call 8; mov r1, r0; ld8 r2, [r6+0]; st8 [r1+0], r2; call 9; exit"
	b := usual(t)
	l := code(t, lines)
	b.run(t, l)
	was := b.left()
	clear(l)
	b.c.Objs[1] = api.Obj{}
	b.c.Objs[0].Up[0] = 99
	b.c.Words = [8]uint64{}
	if b.left() != was {
		t.Errorf("left: %q, not %q", b.left(), was)
	}
}

func TestTheSameIsDoneOnceMore(t *testing.T) { // P18.1, P18.2
	all := endings()
	for k, e := range all {
		a, b := filled(t), filled(t)
		l := code(t, e.lines)
		for n := range 3 {
			// Between them there is another run, of other maps and another ring.
			filled(t).run(t, code(t, all[(7*n+k+1)%len(all)].lines))
			x, y := Run(l, a.c, a.o, a.r, a.owner), Run(l, b.c, b.o, b.r, b.owner)
			if x != y || a.left() != b.left() {
				t.Fatalf("%q: %+v and %+v", e.lines, x, y)
			}
		}
	}
}

func TestRecordsBytesAreNobodysBehindTheRun(t *testing.T) { // P18.2
	b := usual(t)
	b.tells(t, "map r1, 3; mov r2, 8; call 8; st8 [r0+0], 1; mov r1, r0; call 9; exit", 0, 7)
	was := b.r.Bytes()
	for k := range 6 {
		b.traps(t, "map r1, 3; mov r2, 8; call 8; st8 [r0+0], "+strconv.Itoa(k)+"; mov r0, 1; exit", api.TrapLeak, 6)
	}
	if now := b.r.Bytes(); !bytes.HasPrefix(now, was) || len(now) != 7*12 {
		t.Errorf("%q was %q", now, was)
	}
}

func TestDropsAreAllThatAFullRingGets(t *testing.T) { // P18.2
	b := usual(t)
	b.r, _ = ring.New(30)
	b.tells(t, "map r1, 3; mov r2, 20; call 8; mov r1, r0; call 9; exit", 0, 6)
	was := b.r.Bytes()
	for k := range 5 {
		b.tells(t, "map r1, 3; mov r2, 20; call 8; mov r6, r0; map r1, 3; mov r2, 3; call 8; add r0, r6; exit", 0, 9)
		if !bytes.Equal(b.r.Bytes(), was) || b.r.Drops() != 2*k+2 {
			t.Errorf("%q was %q; %d drops", b.r.Bytes(), was, b.r.Drops())
		}
	}
}
