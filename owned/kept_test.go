package owned

import (
	"bytes"
	"slices"
	"testing"

	"halberd/api"
	"halberd/samples"
)

// one is what a test keeps of a map: its slots, no two of which share bytes, and whose they are.
type one struct {
	def   api.MapDef
	slots [][]byte
	// keys are a hash's, by their slots, nil of a free one; objects are a storage's.
	keys    [][]byte
	objects []api.Key
}

func (x *one) copied() *one {
	c := &one{x.def, slices.Clone(x.slots), slices.Clone(x.keys), slices.Clone(x.objects)}
	for k := range c.slots {
		c.slots[k] = bytes.Clone(c.slots[k])
	}
	for k := range c.keys {
		c.keys[k] = bytes.Clone(c.keys[k])
	}
	return c
}

// keyOf is the key of an array's slot.
func keyOf(k int) []byte {
	return []byte{byte(k), 0, 0, 0}
}

func (x *one) slotOf(key []byte) int {
	for k := range x.slots {
		if x.def.Kind == api.MapArray && bytes.Equal(key, keyOf(k)) {
			return k
		}
		if x.def.Kind == api.MapHash && x.keys[k] != nil && bytes.Equal(key, x.keys[k]) {
			return k
		}
	}
	return -1
}

// kept is what a test keeps of all maps, by their numbers.
type kept []*one

func empty(l []api.MapDef) kept {
	var all kept
	for _, d := range l {
		x := &one{def: d}
		for range d.Max {
			x.slots = append(x.slots, make([]byte, d.Value))
		}
		if d.Kind == api.MapHash {
			x.keys = make([][]byte, d.Max)
		}
		all = append(all, x)
	}
	return all
}

func (l kept) copied() kept {
	c := slices.Clone(l)
	for m := range c {
		c[m] = c[m].copied()
	}
	return c
}

// of tells the map of a number, nil of one of another kind, and without it.
func (l kept) of(m int, kinds ...int) *one {
	if m < 0 || m >= len(l) || !slices.Contains(kinds, l[m].def.Kind) {
		return nil
	}
	return l[m]
}

func (l kept) lookup(m int, key []byte) (int, bool) {
	x := l.of(m, api.MapArray, api.MapHash)
	if x == nil || x.slotOf(key) < 0 {
		return 0, false
	}
	return x.slotOf(key), true
}

func (l kept) update(m int, key, value []byte, flags uint64) api.Errno {
	x := l.of(m, api.MapArray, api.MapHash)
	if x == nil || len(key) != x.def.Key || len(value) != x.def.Value || flags > 2 {
		return api.EINVAL
	}
	k := x.slotOf(key)
	if k < 0 && x.keys == nil {
		return api.EINVAL
	}
	if k < 0 && flags == 2 {
		return api.ENOENT
	}
	if k >= 0 && flags == 1 {
		return api.EEXIST
	}
	if k < 0 {
		k = slices.IndexFunc(x.keys, func(b []byte) bool { return b == nil })
		if k < 0 {
			return api.ENOSPC
		}
		x.keys[k] = bytes.Clone(key)
	}
	x.slots[k] = bytes.Clone(value)
	return api.OK
}

func (l kept) remove(m int, key []byte) api.Errno {
	x := l.of(m, api.MapHash)
	if x == nil || len(key) != x.def.Key {
		return api.EINVAL
	}
	k := x.slotOf(key)
	if k < 0 {
		return api.ENOENT
	}
	x.keys[k] = nil
	return api.OK
}

func (l kept) get(m int, key api.Key, create bool) (int, api.Errno) {
	x := l.of(m, api.MapInode, api.MapTask)
	if x == nil {
		return 0, api.EINVAL
	}
	if k := slices.Index(x.objects, key); k >= 0 {
		return k, api.OK
	}
	if !create {
		return 0, api.ENOENT
	}
	k := len(x.objects)
	if k == x.def.Max {
		return 0, api.ENOSPC
	}
	x.objects, x.slots[k] = append(x.objects, key), make([]byte, x.def.Value)
	return k, api.OK
}

// drop takes the slot out, and puts zeros behind those that are had yet.
func (l kept) drop(m int, key api.Key) api.Errno {
	x := l.of(m, api.MapInode, api.MapTask)
	if x == nil {
		return api.EINVAL
	}
	k := slices.Index(x.objects, key)
	if k < 0 {
		return api.ENOENT
	}
	x.objects, x.slots = slices.Delete(x.objects, k, k+1), slices.Delete(x.slots, k, k+1)
	x.slots = slices.Insert(x.slots, len(x.objects), make([]byte, x.def.Value))
	return api.OK
}

func (l kept) bytes() []byte {
	var b []byte
	for _, x := range l {
		b = append(b, byte(x.def.Kind))
		for k, key := range x.keys {
			if key != nil {
				b = append(append(b, byte(k)), key...)
			}
		}
		for _, o := range x.objects {
			b = append(b, byte(o.Id), byte(o.Gen))
		}
		b = append(b, slices.Concat(x.slots...)...)
	}
	return b
}

func made(t *testing.T, l ...api.MapDef) (*Owned, kept) {
	t.Helper()
	o, err := New(l)
	if o == nil || err != api.OK {
		t.Fatalf("New(%v): %v, %d", l, o, err)
	}
	return o, empty(l)
}

// update does the same to maps and to what is kept of them, and so do those behind it.
func update(t *testing.T, o *Owned, l kept, m int, key, value []byte, flags uint64) api.Errno {
	t.Helper()
	want := l.update(m, key, value, flags)
	if got := o.Update(m, key, value, flags); got != want {
		t.Fatalf("Update(%d, %v, %v, %d): %d, not %d; there is %v", m, key, value, flags, got, want, l.bytes())
	}
	return want
}

func remove(t *testing.T, o *Owned, l kept, m int, key []byte) api.Errno {
	t.Helper()
	want := l.remove(m, key)
	if got := o.Delete(m, key); got != want {
		t.Fatalf("Delete(%d, %v): %d, not %d; there is %v", m, key, got, want, l.bytes())
	}
	return want
}

func get(t *testing.T, o *Owned, l kept, m int, key api.Key, create bool) (int, api.Errno) {
	t.Helper()
	want, wantErr := l.get(m, key, create)
	if got, err := o.Get(m, key, create); got != want || err != wantErr {
		t.Fatalf("Get(%d, %v, %v): %d, %d, not %d, %d; there is %v", m, key, create, got, err, want, wantErr, l.bytes())
	}
	return want, wantErr
}

func drop(t *testing.T, o *Owned, l kept, m int, key api.Key) api.Errno {
	t.Helper()
	want := l.drop(m, key)
	if got := o.Drop(m, key); got != want {
		t.Fatalf("Drop(%d, %v): %d, not %d; there is %v", m, key, got, want, l.bytes())
	}
	return want
}

func slot(t *testing.T, o *Owned, m, k int) []byte {
	t.Helper()
	b, ok := o.Slot(m, k)
	if !ok {
		t.Fatalf("map %d has no slot %d", m, k)
	}
	return b
}

// write writes to a slot's bytes, whoever has it.
func write(t *testing.T, o *Owned, l kept, m, k int, value []byte) {
	t.Helper()
	copy(slot(t, o, m, k), value)
	copy(l[m].slots[k], value)
}

func lookup(t *testing.T, o *Owned, l kept, m int, key []byte) (int, bool) {
	t.Helper()
	want, wantOk := l.lookup(m, key)
	if got, ok := o.Lookup(m, key); got != want || ok != wantOk {
		t.Fatalf("Lookup(%d, %v): %d, %v, not %d, %v; there is %v", m, key, got, ok, want, wantOk, l.bytes())
	}
	return want, wantOk
}

// hold holds all that maps tell against what a test has kept of them.
func hold(t *testing.T, o *Owned, l kept) {
	t.Helper()
	if got := o.Bytes(); !bytes.Equal(got, l.bytes()) {
		t.Fatalf("Bytes(): %v, not %v", got, l.bytes())
	}
	for m := range l {
		holdMap(t, o, l, m)
	}
	for _, m := range []int{-1, len(l)} {
		if d, ok := o.Def(m); d != (api.MapDef{}) || ok {
			t.Fatalf("Def(%d) of %d maps: %v, %v", m, len(l), d, ok)
		}
		if b, ok := o.Slot(m, 0); b != nil || ok {
			t.Fatalf("Slot(%d, 0) of %d maps: %v, %v", m, len(l), b, ok)
		}
	}
}

func holdMap(t *testing.T, o *Owned, l kept, m int) {
	t.Helper()
	x := l[m]
	if d, ok := o.Def(m); d != x.def || !ok {
		t.Fatalf("Def(%d): %v, %v, not %v", m, d, ok, x.def)
	}
	for k := range x.slots {
		if got := slot(t, o, m, k); !bytes.Equal(got, x.slots[k]) {
			t.Fatalf("map %d, slot %d: %v, not %v", m, k, got, x.slots[k])
		}
		lookup(t, o, l, m, keyOf(k))
	}
	for _, k := range []int{-1, len(x.slots)} {
		if b, ok := o.Slot(m, k); b != nil || ok {
			t.Fatalf("map %d of %v, Slot(%d): %v, %v", m, x.def, k, b, ok)
		}
	}
	for _, key := range x.keys {
		lookup(t, o, l, m, key)
	}
	for _, key := range x.objects {
		get(t, o, l, m, key, false)
	}
	get(t, o, l, m, api.Key{Id: -5, Gen: -5}, false)
}

// key makes a hash's key of a number.
func key(d api.MapDef, x int) []byte {
	b := bytes.Repeat([]byte{0xA0}, d.Key)
	b[d.Key/2] = byte(x)
	return b
}

// object has numbers that aren't those of slots, and, of those below 32, no two are the same.
func object(x int) api.Key {
	return api.Key{Id: (x*7 + 3) % 32, Gen: 1 + x%3}
}

// fill gives so many slots of a map away, and draws the bytes of all.
func fill(t *testing.T, o *Owned, l kept, m, some int, seed *uint64) {
	t.Helper()
	d := l[m].def
	for x := range min(some, d.Max) {
		switch d.Kind {
		case api.MapHash:
			update(t, o, l, m, key(d, x), make([]byte, d.Value), 1)
		case api.MapInode, api.MapTask:
			get(t, o, l, m, object(x), true)
		}
	}
	for k := range d.Max {
		write(t, o, l, m, k, samples.Bytes(d.Value, seed))
	}
}

// filled makes maps of which each has some slots left, if it has that many.
func filled(t *testing.T, seed *uint64, left int, l ...api.MapDef) (*Owned, kept) {
	t.Helper()
	o, has := made(t, l...)
	for m, d := range l {
		fill(t, o, has, m, max(0, d.Max-left), seed)
	}
	return o, has
}

func arrayOf(value, most int) api.MapDef {
	return api.MapDef{Kind: api.MapArray, Key: 4, Value: value, Max: most}
}

func hashOf(key, value, most int) api.MapDef {
	return api.MapDef{Kind: api.MapHash, Key: key, Value: value, Max: most}
}

func inodesOf(value, most int) api.MapDef {
	return api.MapDef{Kind: api.MapInode, Value: value, Max: most}
}

func tasksOf(value, most int) api.MapDef {
	return api.MapDef{Kind: api.MapTask, Value: value, Max: most}
}

func aRing() api.MapDef {
	return api.MapDef{Kind: api.MapRing}
}

// shapes has descriptions of all kinds, at the edges and between.
func shapes() []api.MapDef {
	l := []api.MapDef{aRing()}
	for _, value := range []int{1, 2, 8, 31, 32} {
		for _, most := range []int{1, 2, 3, 15, 16} {
			l = append(l, arrayOf(value, most), inodesOf(value, most), tasksOf(value, most))
			for _, key := range []int{1, 2, 4, 7, 8} {
				l = append(l, hashOf(key, value, most))
			}
		}
	}
	return l
}

func kinds() []int {
	return []int{api.MapArray, api.MapHash, api.MapInode, api.MapTask, api.MapRing}
}

// drawDef draws a description of a kind.
func drawDef(kind int, seed *uint64) api.MapDef {
	l := slices.DeleteFunc(shapes(), func(d api.MapDef) bool { return d.Kind != kind })
	return l[samples.Below(seed, len(l))]
}
