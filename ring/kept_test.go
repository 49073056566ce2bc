package ring

import (
	"bytes"
	"math"
	"slices"
	"testing"

	"halberd/api"
	"halberd/samples"
)

// The states, as Bytes tells them.
const (
	isHeld       = 0
	isTold       = 1
	isThrownAway = 2
)

// one is a record that a test keeps, gone or not.
type one struct {
	owner, state int
	gone         bool
	data         []byte
}

// kept is what a test keeps of a ring: all records that there ever were, each at its number.
type kept struct {
	room, drops int
	all         []one
}

func (m *kept) copied() *kept {
	c := &kept{m.room, m.drops, slices.Clone(m.all)}
	for id := range c.all {
		c.all[id].data = bytes.Clone(c.all[id].data)
	}
	return c
}

func (m *kept) used() int {
	used := 0
	for _, e := range m.all {
		if !e.gone {
			used += 8 + len(e.data)
		}
	}
	return used
}

func (m *kept) reserve(owner, n int) (int, bool) {
	if n < 1 || n > 32 {
		return 0, false
	}
	if n+8 > m.room-m.used() {
		m.drops++
		return 0, false
	}
	m.all = append(m.all, one{owner: owner, data: make([]byte, n)})
	return len(m.all) - 1, true
}

func (m *kept) isHeld(id int) bool {
	return id >= 0 && id < len(m.all) && m.all[id].state == isHeld
}

func (m *kept) settle(id, state int) bool {
	if !m.isHeld(id) {
		return false
	}
	m.all[id].state = state
	return true
}

func (m *kept) held() []int {
	var ids []int
	for id := range m.all {
		if m.isHeld(id) {
			ids = append(ids, id)
		}
	}
	return ids
}

func (m *kept) drain() []api.Audit {
	end := len(m.all)
	if ids := m.held(); len(ids) > 0 {
		end = ids[0]
	}
	var l []api.Audit
	for id, e := range m.all[:end] {
		if e.state == isTold && !e.gone {
			l = append(l, api.Audit{Owner: e.owner, Data: e.data})
		}
		m.all[id].gone = true
	}
	return l
}

func (m *kept) bytes() []byte {
	var b []byte
	for id, e := range m.all {
		if !e.gone {
			b = append(append(b, byte(id), byte(e.owner), byte(e.state), byte(len(e.data))), e.data...)
		}
	}
	return b
}

func made(t *testing.T, room int) (*Ring, *kept) {
	t.Helper()
	r, err := New(room)
	if r == nil || err != api.OK {
		t.Fatalf("New(%d): %v, %d", room, r, err)
	}
	return r, &kept{room: room}
}

// reserve does the same to a ring and to what is kept of it.
func reserve(t *testing.T, r *Ring, m *kept, owner, n int) (int, bool) {
	t.Helper()
	want, wantOk := m.reserve(owner, n)
	if got, ok := r.Reserve(owner, n); got != want || ok != wantOk {
		t.Fatalf("Reserve(%d, %d): %d, %v, not %d, %v; there is %v", owner, n, got, ok, want, wantOk, m)
	}
	return want, wantOk
}

func settle(t *testing.T, r *Ring, m *kept, id, state int) {
	t.Helper()
	call := r.Commit
	if state == isThrownAway {
		call = r.Discard
	}
	want := m.settle(id, state)
	if got := call(id); got != want {
		t.Fatalf("record %d becomes %d: %v, not %v; there is %v", id, state, got, want, m)
	}
}

func drain(t *testing.T, r *Ring, m *kept) []api.Audit {
	t.Helper()
	want := m.drain()
	got := r.Drain()
	if !slices.EqualFunc(got, want, sameAudit) {
		t.Fatalf("Drain(): %v, not %v; there is %v", got, want, m)
	}
	return got
}

func sameAudit(a, b api.Audit) bool {
	return a.Owner == b.Owner && bytes.Equal(a.Data, b.Data)
}

func data(t *testing.T, r *Ring, id int) []byte {
	t.Helper()
	b, ok := r.Record(id)
	if !ok {
		t.Fatalf("record %d isn't held", id)
	}
	return b
}

// write writes drawn bytes to a record that is held.
func write(t *testing.T, r *Ring, m *kept, id int, seed *uint64) {
	t.Helper()
	b := samples.Bytes(len(m.all[id].data), seed)
	copy(data(t, r, id), b)
	copy(m.all[id].data, b)
}

// hold holds all that a ring tells against what a test has kept of it.
func hold(t *testing.T, r *Ring, m *kept) {
	t.Helper()
	if r.Room() != m.room || r.Used() != m.used() || r.Drops() != m.drops {
		t.Fatalf("room %d, used %d, %d drops, not %d, %d, %d", r.Room(), r.Used(), r.Drops(), m.room, m.used(), m.drops)
	}
	if r.Used() > r.Room() {
		t.Fatalf("%d bytes are taken of %d", r.Used(), r.Room())
	}
	if got := r.Held(); !slices.Equal(got, m.held()) {
		t.Fatalf("Held(): %v, not %v", got, m.held())
	}
	if got := r.Bytes(); !bytes.Equal(got, m.bytes()) {
		t.Fatalf("Bytes(): %v, not %v", got, m.bytes())
	}
	for id := -2; id < len(m.all)+2; id++ {
		holdRecord(t, r, m, id)
	}
}

func holdRecord(t *testing.T, r *Ring, m *kept, id int) {
	t.Helper()
	got, ok := r.Record(id)
	if ok != m.isHeld(id) || !ok && got != nil {
		t.Fatalf("Record(%d): %v, %v; there is %v", id, got, ok, m)
	}
	if ok && !bytes.Equal(got, m.all[id].data) {
		t.Fatalf("Record(%d): %v, not %v", id, got, m.all[id].data)
	}
}

func rooms() []int {
	return []int{1, 8, 9, 10, 18, 27, 39, 40, 41, 80, 100, 255, 256}
}

// owners are at the ends, and some whose low bytes others have.
func owners() []int {
	return []int{
		0, 1, -1, 7, 127, 128, 255, 256, 257, 263, -255, -256, -257, 1<<16 + 7, 1 << 31, 1 << 32, 1<<32 + 7, -1 << 32,
		math.MinInt, math.MinInt + 1, math.MaxInt - 1, math.MaxInt,
	}
}

func drawOwner(seed *uint64) int {
	l := owners()
	return l[samples.Below(seed, len(l))]
}

// filled makes a ring with as many records of n drawn bytes as it has room for, all held.
func filled(t *testing.T, room, n int, seed *uint64) (*Ring, *kept) {
	t.Helper()
	r, m := made(t, room)
	for range room / (n + 8) {
		id, _ := reserve(t, r, m, drawOwner(seed), n)
		write(t, r, m, id, seed)
	}
	return r, m
}

// mixed makes a ring with records of several lengths and in all states, some of which are gone.
func mixed(t *testing.T, room int, seed *uint64) (*Ring, *kept) {
	t.Helper()
	r, m := made(t, room)
	for range 4 {
		for {
			id, ok := reserve(t, r, m, drawOwner(seed), 1+samples.Below(seed, 32))
			if !ok {
				break
			}
			write(t, r, m, id, seed)
		}
		for _, id := range m.held() {
			if state := samples.Below(seed, 4); state > isHeld {
				settle(t, r, m, id, min(state, isThrownAway))
			}
		}
		drain(t, r, m)
	}
	// What is settled now is there yet.
	for _, id := range m.held() {
		if state := samples.Below(seed, 3); state > isHeld {
			settle(t, r, m, id, state)
		}
	}
	return r, m
}
