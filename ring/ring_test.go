package ring

import (
	"bytes"
	"math"
	"slices"
	"testing"

	"halberd/api"
	"halberd/samples"
)

func TestExample(t *testing.T) { // P13.1, P13.2, P13.3, P13.4
	r, m := made(t, 20)
	if id, ok := reserve(t, r, m, 5, 4); id != 0 || !ok {
		t.Errorf("the first record: %d, %v", id, ok)
	}
	if id, ok := reserve(t, r, m, 5, 4); id != 0 || ok || r.Drops() != 1 {
		t.Errorf("the second record: %d, %v, then %d drops", id, ok, r.Drops())
	}
	hold(t, r, m)
	settle(t, r, m, 0, isTold)
	if l := drain(t, r, m); len(l) != 1 || l[0].Owner != 5 || !bytes.Equal(l[0].Data, make([]byte, 4)) {
		t.Errorf("Drain(): %v", l)
	}
	hold(t, r, m)
	if id, ok := reserve(t, r, m, 5, 4); id != 1 || !ok {
		t.Errorf("behind the drain: %d, %v", id, ok)
	}
	hold(t, r, m)
}

func TestLimits(t *testing.T) { // P13.1
	for _, c := range []struct {
		room int
		err  api.Errno
	}{
		{1, api.OK}, {2, api.OK}, {9, api.OK}, {255, api.OK}, {256, api.OK},
		{0, api.EINVAL}, {257, api.EINVAL}, {-1, api.EINVAL}, {-256, api.EINVAL}, {512, api.EINVAL},
		{1<<32 + 1, api.EINVAL}, {math.MinInt, api.EINVAL}, {math.MinInt + 1, api.EINVAL}, {math.MaxInt, api.EINVAL},
	} {
		if r, err := New(c.room); err != c.err || (r == nil) == (err == api.OK) {
			t.Errorf("New(%d): %v, %d, not %d", c.room, r, err, c.err)
		}
	}
	for _, room := range samples.Outside(1, api.RingSize) {
		if r, err := New(room); r != nil || err != api.EINVAL {
			t.Errorf("New(%d): %v, %d", room, r, err)
		}
	}
}

func TestAllRoomsAndLengths(t *testing.T) { // P13.1, P13.2, P13.5
	for room := 1; room <= 256; room++ {
		for n := 1; n <= 32; n++ {
			r, m := made(t, room)
			for x := range room / (n + 8) {
				if id, ok := reserve(t, r, m, x, n); id != x || !ok {
					t.Errorf("room %d, record %d of %d bytes: %d, %v", room, x, n, id, ok)
				}
			}
			hold(t, r, m)
			if id, ok := reserve(t, r, m, 5, n); id != 0 || ok || r.Drops() != 1 {
				t.Errorf("room %d, one record more of %d bytes: %d, %v, then %d drops", room, n, id, ok, r.Drops())
			}
			hold(t, r, m)
		}
	}
}

func TestRoomThatJustSuffices(t *testing.T) { // P13.2
	for _, c := range []struct {
		room    int
		lengths []int
		fits    []bool
		used    int
	}{
		{1, []int{1, 32, 1}, []bool{false, false, false}, 0},
		{8, []int{1}, []bool{false}, 0},
		{9, []int{2, 1, 1}, []bool{false, true, false}, 9},
		{39, []int{32, 31, 1}, []bool{false, true, false}, 39},
		{40, []int{32, 1}, []bool{true, false}, 40},
		{41, []int{32, 1}, []bool{true, false}, 40},
		{48, []int{32, 1}, []bool{true, false}, 40},
		{49, []int{32, 2, 1, 1}, []bool{true, false, true, false}, 49},
		{17, []int{1, 1}, []bool{true, false}, 9},
		{18, []int{1, 1}, []bool{true, true}, 18},
		{255, []int{32, 32, 32, 32, 32, 32, 8, 1}, []bool{true, true, true, true, true, true, false, true}, 249},
		{256, []int{32, 32, 32, 32, 32, 32, 8, 1}, []bool{true, true, true, true, true, true, true, false}, 256},
	} {
		r, m := made(t, c.room)
		for i, n := range c.lengths {
			if _, ok := reserve(t, r, m, 5, n); ok != c.fits[i] {
				t.Errorf("room %d, lengths %v: record %d: %v", c.room, c.lengths, i, ok)
			}
			hold(t, r, m)
		}
		if r.Used() != c.used {
			t.Errorf("room %d, lengths %v: used %d, not %d", c.room, c.lengths, r.Used(), c.used)
		}
	}
}

func TestLengthsThatNoRecordHas(t *testing.T) { // P13.2
	seed := uint64(1)
	for _, room := range rooms() {
		for _, fill := range []func() (*Ring, *kept){
			func() (*Ring, *kept) { return made(t, room) },
			func() (*Ring, *kept) { return mixed(t, room, &seed) },
			func() (*Ring, *kept) { return filled(t, room, 1, &seed) },
		} {
			r, m := fill()
			drops := r.Drops()
			for _, n := range samples.Outside(1, api.MaxValue) {
				if id, ok := r.Reserve(drawOwner(&seed), n); id != 0 || ok || r.Drops() != drops {
					t.Errorf("a record of %d bytes: %d, %v, then %d drops, not %d", n, id, ok, r.Drops(), drops)
				}
			}
			hold(t, r, m)
		}
	}
}

func TestNewRecordIsAllZeros(t *testing.T) { // P13.2, P13.3
	seed := uint64(2)
	for n := 1; n <= 32; n++ {
		r, m := filled(t, 256, n, &seed)
		for id := range m.all {
			settle(t, r, m, id, isTold)
		}
		drain(t, r, m)
		for range len(m.all) {
			id, _ := reserve(t, r, m, 5, n)
			if b := data(t, r, id); !bytes.Equal(b, make([]byte, n)) {
				t.Errorf("a new record's bytes: %v", b)
			}
		}
		hold(t, r, m)
	}
}

func TestAFullRing(t *testing.T) { // P13.2, P13.4, P13.5
	seed := uint64(3)
	for _, room := range rooms() {
		for _, n := range []int{1, 2, 31, 32} {
			r, m := filled(t, room, n, &seed)
			for drops := range 5 {
				if r.Drops() != drops {
					t.Errorf("%d drops, not %d", r.Drops(), drops)
				}
				reserve(t, r, m, drawOwner(&seed), n)
				hold(t, r, m)
			}
			// None that is settled makes room, till it goes from the front.
			for id := range len(m.all) {
				settle(t, r, m, id, 1+samples.Below(&seed, 2))
				reserve(t, r, m, drawOwner(&seed), n)
				hold(t, r, m)
			}
			drain(t, r, m)
			hold(t, r, m)
			reserve(t, r, m, drawOwner(&seed), n)
			hold(t, r, m)
		}
	}
}

func TestRoomAgain(t *testing.T) { // P13.2, P13.4
	for _, state := range []int{isTold, isThrownAway} {
		r, m := made(t, 27)
		for range 3 {
			reserve(t, r, m, 5, 1)
		}
		steps := []struct {
			settle int
			drain  bool
			id     int
			ok     bool
		}{
			{1, false, 0, false}, {1, true, 0, false}, {2, true, 0, false}, {0, false, 0, false},
			{0, true, 3, true}, {0, true, 4, true}, {0, true, 5, true}, {0, true, 0, false},
			{4, true, 0, false}, {3, true, 6, true}, {3, true, 7, true}, {3, true, 0, false},
		}
		for i, s := range steps {
			settle(t, r, m, s.settle, state)
			if s.drain {
				drain(t, r, m)
			}
			if id, ok := reserve(t, r, m, 5, 1); id != s.id || ok != s.ok {
				t.Errorf("step %d: record %d, %v, not %d, %v", i, id, ok, s.id, s.ok)
			}
			hold(t, r, m)
		}
	}
}

func TestNumbersGoOn(t *testing.T) { // P13.2, P13.4
	seed := uint64(4)
	r, m := made(t, 256)
	for x := 0; x < 600; {
		for range 1 + samples.Below(&seed, 28) {
			id, ok := reserve(t, r, m, drawOwner(&seed), 1+samples.Below(&seed, 4))
			if !ok {
				continue
			}
			if id != x {
				t.Fatalf("record %d has number %d", x, id)
			}
			x++
		}
		hold(t, r, m)
		for _, id := range m.held() {
			if samples.Below(&seed, 8) > 0 {
				settle(t, r, m, id, 1+samples.Below(&seed, 2))
			}
		}
		hold(t, r, m)
		drain(t, r, m)
		hold(t, r, m)
	}
}

func TestBytesOfNumbersBeyond255(t *testing.T) { // P13.4
	for _, c := range []struct {
		owner, ahead int
		want         []byte
	}{
		{0, 0, []byte{0, 0, 0, 1, 9}}, {5, 1, []byte{1, 5, 0, 1, 9}}, {255, 255, []byte{255, 255, 0, 1, 9}},
		{256, 256, []byte{0, 0, 0, 1, 9}}, {257, 257, []byte{1, 1, 0, 1, 9}}, {-1, 511, []byte{255, 255, 0, 1, 9}},
		{-256, 512, []byte{0, 0, 0, 1, 9}}, {-255, 600, []byte{88, 1, 0, 1, 9}},
		{math.MinInt, 300, []byte{44, 0, 0, 1, 9}}, {math.MaxInt, 300, []byte{44, 255, 0, 1, 9}}, {1<<32 + 7, 300, []byte{44, 7, 0, 1, 9}},
	} {
		r, m := made(t, 9)
		for id := range c.ahead {
			reserve(t, r, m, 1, 1)
			settle(t, r, m, id, isTold)
			drain(t, r, m)
		}
		reserve(t, r, m, c.owner, 1)
		data(t, r, c.ahead)[0], m.all[c.ahead].data[0] = 9, 9
		if b := r.Bytes(); !bytes.Equal(b, c.want) {
			t.Errorf("record %d of %d: %v, not %v", c.ahead, c.owner, b, c.want)
		}
		hold(t, r, m)
		settle(t, r, m, c.ahead, isTold)
		if l := drain(t, r, m); len(l) != 1 || l[0].Owner != c.owner {
			t.Errorf("record %d of %d is drained: %v", c.ahead, c.owner, l)
		}
	}
}

func TestBytesOfAllStates(t *testing.T) { // P13.3, P13.4
	r, m := made(t, 256)
	for n := 1; n <= 3; n++ {
		id, _ := reserve(t, r, m, 10*n, n)
		for i := range n {
			data(t, r, id)[i], m.all[id].data[i] = byte(n), byte(n)
		}
	}
	settle(t, r, m, 1, isTold)
	settle(t, r, m, 2, isThrownAway)
	if b := r.Bytes(); !bytes.Equal(b, []byte{0, 10, 0, 1, 1, 1, 20, 1, 2, 2, 2, 2, 30, 2, 3, 3, 3, 3}) {
		t.Errorf("Bytes(): %v", b)
	}
	hold(t, r, m)
	if l := drain(t, r, m); len(l) != 0 {
		t.Errorf("behind a held one: %v", l)
	}
	hold(t, r, m)
	settle(t, r, m, 0, isTold)
	want := []api.Audit{{Owner: 10, Data: []byte{1}}, {Owner: 20, Data: []byte{2, 2}}}
	if l := drain(t, r, m); !slices.EqualFunc(l, want, sameAudit) {
		t.Errorf("Drain(): %v, not %v", l, want)
	}
	if b := r.Bytes(); len(b) != 0 || r.Used() != 0 {
		t.Errorf("behind the drain: %v, used %d", b, r.Used())
	}
	hold(t, r, m)
}

// settleInOrder settles all records in an order, each told or thrown away by a bit of states, and drains behind those whose bit is in drains, and at the end.
func settleInOrder(t *testing.T, order []int, states, drains int, seed *uint64) {
	t.Helper()
	r, m := made(t, 256)
	for id := range order {
		reserve(t, r, m, drawOwner(seed), 1+id)
		write(t, r, m, id, seed)
	}
	for i, id := range order {
		settle(t, r, m, id, 1+states>>i&1)
		hold(t, r, m)
		if drains>>i&1 > 0 {
			drain(t, r, m)
			hold(t, r, m)
		}
	}
	drain(t, r, m)
	if l := drain(t, r, m); len(l) != 0 || r.Used() != 0 {
		t.Fatalf("settled in order %v: once more %v, used %d", order, l, r.Used())
	}
	hold(t, r, m)
}

func TestSettledInAllOrders(t *testing.T) { // P13.3, P13.4, P13.5
	seed := uint64(5)
	for n := 1; n <= 4; n++ {
		for _, order := range samples.Orders(n) {
			for states := range 1 << n {
				for drains := range 1 << n {
					settleInOrder(t, order, states, drains, &seed)
				}
			}
		}
	}
	for range 100 {
		settleInOrder(t, samples.Shuffled(14, &seed), samples.Below(&seed, 1<<14), samples.Below(&seed, 1<<14), &seed)
	}
}

func TestSettledOnceAndForAll(t *testing.T) { // P13.3
	seed := uint64(6)
	for _, first := range []int{isTold, isThrownAway} {
		for _, second := range []int{isTold, isThrownAway} {
			for id := range 3 {
				r, m := filled(t, 30, 2, &seed)
				settle(t, r, m, id, first)
				hold(t, r, m)
				settle(t, r, m, id, second)
				hold(t, r, m)
				if r.Commit(id) || r.Discard(id) {
					t.Errorf("record %d is settled twice", id)
				}
				hold(t, r, m)
				drain(t, r, m)
				settle(t, r, m, id, second)
				hold(t, r, m)
			}
		}
	}
}

func TestNumbersThatNoHeldRecordHas(t *testing.T) { // P13.3
	seed := uint64(7)
	for _, room := range rooms() {
		for range 20 {
			r, m := mixed(t, room, &seed)
			numbers := []int{math.MinInt, math.MinInt + 1, math.MaxInt - 1, math.MaxInt, 1 << 32, 1 << 33, -1 << 32, 1 << 62, -1 << 62}
			for id := -40; id < len(m.all)+40; id++ {
				numbers = append(numbers, id, id+1<<8, id+1<<16, id+1<<32, id-1<<8, id-1<<32, math.MinInt+40+id, math.MaxInt-len(m.all)-40+id)
			}
			for _, id := range numbers {
				if m.isHeld(id) {
					continue
				}
				if b, ok := r.Record(id); b != nil || ok {
					t.Errorf("Record(%d): %v, %v; there is %v", id, b, ok, m)
				}
				if r.Commit(id) || r.Discard(id) {
					t.Errorf("record %d is settled; there is %v", id, m)
				}
			}
			hold(t, r, m)
		}
	}
}

func TestRecordTellsTheBytesThemselves(t *testing.T) { // P13.3, P13.5
	seed := uint64(8)
	for n := 1; n <= 32; n++ {
		r, m := filled(t, 256, n, &seed)
		for id := range m.all {
			b := data(t, r, id)
			samples.TurnAll(b)
			samples.TurnAll(m.all[id].data)
			hold(t, r, m)
			b = append(b, 0xEE, 0xEE)
			samples.TurnAll(b[:cap(b)])
			hold(t, r, m)
			b = data(t, r, id)
			samples.TurnAll(b)
			samples.TurnAll(m.all[id].data)
		}
		for id := range m.all {
			settle(t, r, m, id, isTold)
		}
		if l := drain(t, r, m); len(l) != len(m.all) {
			t.Errorf("%d records are drained, not %d", len(l), len(m.all))
		}
	}
}

func TestRecordToldAheadOfChanges(t *testing.T) { // P13.3
	// It is the record's bytes themselves as long as that is held, whatever is done beside it.
	seed := uint64(9)
	for id := range 4 {
		r, m := filled(t, 44, 3, &seed)
		b := data(t, r, id)
		for other := range 4 {
			if other != id {
				settle(t, r, m, other, 1+samples.Below(&seed, 2))
			}
			drain(t, r, m)
			reserve(t, r, m, drawOwner(&seed), 3)
			r.Copy()
			samples.TurnAll(b)
			samples.TurnAll(m.all[id].data)
			hold(t, r, m)
		}
		settle(t, r, m, id, isTold)
		drain(t, r, m)
		hold(t, r, m)
	}
}

func TestRecordThatIsHeldNoMore(t *testing.T) { // P13.3, P13.4, P13.5
	seed := uint64(10)
	for _, state := range []int{isTold, isThrownAway} {
		for n := 1; n <= 32; n++ {
			r, m := filled(t, 256, n, &seed)
			var stale [][]byte
			for id := range m.all {
				stale = append(stale, data(t, r, id))
			}
			for id := range m.all {
				settle(t, r, m, id, state)
				samples.TurnAll(stale[id])
				hold(t, r, m)
			}
			c, has := r.Copy(), m.copied()
			l, want := r.Drain(), m.drain()
			for range 2 {
				reserve(t, r, m, 5, n)
			}
			for id := range stale {
				samples.TurnAll(stale[id])
			}
			if !slices.EqualFunc(l, want, sameAudit) {
				t.Errorf("drained: %v, not %v", l, want)
			}
			hold(t, r, m)
			hold(t, c, has)
			drain(t, c, has)
		}
	}
}

// spoil writes over all that was told, spare room too.
func spoil(ids []int, all []byte, l []api.Audit) {
	for i := range ids[:cap(ids)] {
		ids[:cap(ids)][i] = -9
	}
	samples.TurnAll(all[:cap(all)])
	for i := range l[:cap(l)] {
		e := &l[:cap(l)][i]
		samples.TurnAll(e.Data[:cap(e.Data)])
		*e = api.Audit{Owner: -9}
	}
}

func TestWhatIsToldIsNotKept(t *testing.T) { // P13.3, P13.4
	seed := uint64(11)
	for _, room := range rooms() {
		for range 20 {
			r, m := mixed(t, room, &seed)
			spoil(r.Held(), r.Bytes(), nil)
			hold(t, r, m)
			c, has := r.Copy(), m.copied()
			spoil(nil, nil, drain(t, r, m.copied()))
			m.drain()
			hold(t, r, m)
			hold(t, c, has)
			reserve(t, r, m, 5, 1)
			spoil(r.Held(), r.Bytes(), r.Drain())
			m.drain()
			hold(t, r, m)
			drain(t, c, has)
		}
	}
}

func TestWhatIsToldStays(t *testing.T) { // P13.3, P13.4, P13.5
	seed := uint64(12)
	for _, room := range rooms() {
		for range 20 {
			r, m := mixed(t, room, &seed)
			ids, all := r.Held(), r.Bytes()
			wasIds, wasAll := m.held(), m.bytes()
			l, want := r.Drain(), m.copied().drain()
			m.drain()
			change(t, r, m, &seed)
			change(t, r, m, &seed)
			if !slices.Equal(ids, wasIds) || !bytes.Equal(all, wasAll) || !slices.EqualFunc(l, want, sameAudit) {
				t.Errorf("told ahead: %v, %v, %v, not %v, %v, %v", ids, all, l, wasIds, wasAll, want)
			}
		}
	}
}

// change does some of all that may be done to a ring.
func change(t *testing.T, r *Ring, m *kept, seed *uint64) {
	t.Helper()
	for _, id := range m.held() {
		write(t, r, m, id, seed)
		if state := samples.Below(seed, 3); state > isHeld {
			settle(t, r, m, id, state)
		}
	}
	reserve(t, r, m, drawOwner(seed), 1+samples.Below(seed, 32))
	hold(t, r, m)
	if samples.Below(seed, 2) > 0 {
		drain(t, r, m)
	}
	for range 2 {
		if id, ok := reserve(t, r, m, drawOwner(seed), 1+samples.Below(seed, 32)); ok {
			write(t, r, m, id, seed)
		}
	}
	hold(t, r, m)
}

func TestCopy(t *testing.T) { // P13.4
	seed := uint64(13)
	for _, room := range rooms() {
		for range 20 {
			r, m := mixed(t, room, &seed)
			ahead, aheadHas := r.Copy(), m.copied()
			change(t, r, m, &seed)
			behind, behindHas := r.Copy(), m.copied()
			second, secondHas := ahead.Copy(), aheadHas.copied()
			all, has := []*Ring{r, ahead, behind, second}, []*kept{m, aheadHas, behindHas, secondHas}
			for i := range all {
				for j := range all {
					hold(t, all[j], has[j])
				}
				change(t, all[i], has[i], &seed)
			}
			for j := range all {
				hold(t, all[j], has[j])
				drain(t, all[j], has[j])
			}
		}
	}
}

func TestRecordsOfCopies(t *testing.T) { // P13.3, P13.4
	// A held one's bytes are written to by slices told ahead of the copies, and by the copies' own.
	seed := uint64(14)
	for some := range 29 {
		r, m := made(t, 256)
		var early [][]byte
		for id := range some {
			reserve(t, r, m, drawOwner(&seed), 1)
			early = append(early, data(t, r, id))
		}
		all, has := []*Ring{r, r.Copy(), r.Copy()}, []*kept{m, m.copied(), m.copied()}
		for id := range early {
			early[id][0], m.all[id].data[0] = 7, 7
		}
		for i := range all {
			reserve(t, all[i], has[i], 20+i, 1)
			for _, id := range has[i].held() {
				write(t, all[i], has[i], id, &seed)
			}
			for j := range all {
				hold(t, all[j], has[j])
			}
		}
		for i := range all {
			for id := range some {
				settle(t, all[i], has[i], id, 1+(id+i)%2)
			}
			drain(t, all[i], has[i])
			hold(t, all[i], has[i])
		}
	}
}

func TestRingsShareNothing(t *testing.T) { // P13.1
	seed := uint64(15)
	for _, room := range rooms() {
		a, aHas := made(t, room)
		b, bHas := made(t, room)
		for range 3 {
			change(t, a, aHas, &seed)
		}
		hold(t, b, bHas)
		change(t, b, bHas, &seed)
		hold(t, a, aHas)
		more, moreHas := made(t, room)
		hold(t, more, moreHas)
	}
}

func TestNilRing(t *testing.T) { // P13.1, P13.2, P13.3, P13.4
	var r *Ring
	if r.Room() != 0 || r.Used() != 0 || r.Drops() != 0 || len(r.Held()) != 0 || len(r.Drain()) != 0 || len(r.Bytes()) != 0 || r.Copy() != nil {
		t.Errorf("nil: %d, %d, %d, %v, %v, %v, %v", r.Room(), r.Used(), r.Drops(), r.Held(), r.Drain(), r.Bytes(), r.Copy())
	}
	for _, n := range append(samples.Outside(1, 32), samples.UpTo(32)...) {
		if id, ok := r.Reserve(5, n); id != 0 || ok || r.Drops() != 0 {
			t.Errorf("Reserve(5, %d) of nil: %d, %v", n, id, ok)
		}
	}
	for _, id := range append(samples.Outside(0, 0), 0) {
		if b, ok := r.Record(id); b != nil || ok || r.Commit(id) || r.Discard(id) {
			t.Errorf("record %d of nil: %v, %v", id, b, ok)
		}
	}
	if refused, _ := New(0); refused.Room() != 0 || refused.Copy() != nil {
		t.Errorf("what New refused has room for %d", refused.Room())
	}
}

// goOn does each of some things to copies of a ring, so many things one behind the other.
func goOn(t *testing.T, r *Ring, m *kept, depth int) {
	t.Helper()
	hold(t, r, m)
	if depth == 0 {
		return
	}
	for what := range 11 {
		c, has := r.Copy(), m.copied()
		switch what {
		case 0, 1:
			reserve(t, c, has, depth, 1+what)
		case 2:
			drain(t, c, has)
		case 3, 4, 5, 6:
			settle(t, c, has, what-3, isTold)
		case 7, 8, 9:
			settle(t, c, has, what-7, isThrownAway)
		case 10:
			for _, id := range has.held() {
				b := data(t, c, id)
				b[0], has.all[id].data[0] = byte(depth), byte(depth)
			}
		}
		goOn(t, c, has, depth-1)
	}
	hold(t, r, m)
}

func TestAllShortScripts(t *testing.T) { // P13.1, P13.2, P13.3, P13.4, P13.5
	for _, room := range []int{9, 18, 20} {
		r, m := made(t, room)
		goOn(t, r, m, 5)
	}
}

// script has some rings, all of one room, and what is kept of each.
type script struct {
	all  []*Ring
	has  []*kept
	seed uint64
}

func (s *script) step(t *testing.T) {
	t.Helper()
	at, from := samples.Below(&s.seed, len(s.all)), samples.Below(&s.seed, len(s.all))
	r, m := s.all[at], s.has[at]
	// Most numbers are of those that came last, of which some are held.
	id := len(m.all) + 2 - samples.Below(&s.seed, 16)
	switch samples.Below(&s.seed, 16) {
	case 0, 1, 2, 3, 4, 5:
		reserve(t, r, m, drawOwner(&s.seed), samples.Below(&s.seed, 34))
	case 6, 7, 8:
		settle(t, r, m, id, isTold)
	case 9, 10:
		settle(t, r, m, id, isThrownAway)
	case 11, 12:
		if m.isHeld(id) {
			write(t, r, m, id, &s.seed)
		}
	case 13, 14:
		drain(t, r, m)
	case 15:
		s.all[at], s.has[at] = s.all[from].Copy(), s.has[from].copied()
	}
}

func (s *script) settleFirst(t *testing.T) {
	t.Helper()
	for i, m := range s.has {
		if ids := m.held(); len(ids) > 0 {
			settle(t, s.all[i], m, ids[0], isTold)
		}
	}
}

func TestDrawnScripts(t *testing.T) { // P13.1, P13.2, P13.3, P13.4, P13.5
	for i, room := range rooms() {
		s := &script{seed: uint64(100 + i)}
		for range 3 {
			r, m := made(t, room)
			s.all, s.has = append(s.all, r), append(s.has, m)
		}
		for x := range 600 {
			s.step(t)
			if x%5 == 0 {
				// Or else one that is held in front may stand for good.
				s.settleFirst(t)
			}
			for j := range s.all {
				hold(t, s.all[j], s.has[j])
			}
		}
	}
}
