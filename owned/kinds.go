package owned

import (
	"slices"

	"halberd/api"
	"halberd/array"
	"halberd/hash"
	"halberd/local"
	"halberd/words"
)

const (
	// arrayKey is how many bytes an array's key has.
	arrayKey = 4
	// onlyNew asks for a key that isn't there yet; an array's all are.
	onlyNew  = 1
	maxFlags = 2
)

func May(l []api.MapDef) bool {
	return len(l) <= api.MaxMaps && !slices.ContainsFunc(l, func(d api.MapDef) bool { return !may(d) })
}

func may(d api.MapDef) bool {
	within := func(n, most int) bool { return n >= 1 && n <= most }
	sized := within(d.Value, api.MaxValue) && within(d.Max, api.MaxSlots)
	switch d.Kind {
	case api.MapArray:
		return sized && d.Key == arrayKey
	case api.MapHash:
		return sized && within(d.Key, api.MaxKey)
	case api.MapInode, api.MapTask:
		return sized && d.Key == 0
	case api.MapRing:
		return d == api.MapDef{Kind: api.MapRing}
	}
	return false
}

// slotsOf makes the slots of a description that may be, nil of a ring.
func slotsOf(d api.MapDef) slots {
	switch d.Kind {
	case api.MapArray:
		s, _ := array.New(d.Value, d.Max)
		return s
	case api.MapHash:
		s, _ := hash.New(d.Key, d.Value, d.Max)
		return s
	case api.MapInode, api.MapTask:
		s, _ := local.New(d.Value, d.Max)
		return s
	}
	return nil
}

func copied(s slots) slots {
	switch s := s.(type) {
	case *array.Array:
		return s.Copy()
	case *hash.Hash:
		return s.Copy()
	case *local.Local:
		return s.Copy()
	}
	return nil
}

// holders tells whose the slots are, as Bytes tells it; an array's are nobody's.
func holders(s slots) []byte {
	var b []byte
	switch s := s.(type) {
	case *hash.Hash:
		for _, key := range s.Keys() {
			k, _ := s.Find(key)
			b = append(append(b, byte(k)), key...)
		}
	case *local.Local:
		for _, key := range s.Keys() {
			b = append(b, byte(key.Id), byte(key.Gen))
		}
	}
	return b
}

// slotNumber tells the slot's number that an array's key has.
func slotNumber(a *array.Array, key []byte) (int, bool) {
	if len(key) != arrayKey {
		return 0, false
	}
	k, _ := words.Load(key, 0, arrayKey)
	// Held against each other ahead of the conversion, as an int may have no more than 32 bits.
	if k >= uint64(a.Len()) {
		return 0, false
	}
	return int(k), true
}

func updateArray(a *array.Array, key, value []byte, flags uint64) api.Errno {
	k, ok := slotNumber(a, key)
	switch {
	case !ok || len(value) != a.Size() || flags > maxFlags:
		return api.EINVAL
	case flags == onlyNew:
		return api.EEXIST
	}
	slot, _ := a.Slot(k)
	copy(slot, value)
	return api.OK
}
