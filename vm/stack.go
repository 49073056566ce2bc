package vm

import (
	"slices"

	"halberd/api"
	"halberd/words"
)

// placeSize is how many bytes of the stack a pointer takes.
const placeSize = 8

// stack has its lowest byte first.
type stack struct {
	bytes [api.StackSize]byte
	have  [api.StackSize]bool
	// pointers has what a place has in the place of its bytes, which have no values then; no value where it has none.
	pointers [api.StackSize / placeSize]value
}

// find tells where n bytes are, at least one, from an offset below register 10 on, and whether they are all there.
func find(off uint64, n int) (int, bool) {
	at := off + api.StackSize
	if at > uint64(api.StackSize-n) {
		return 0, false
	}
	return int(at), true
}

// isPlace tells whether n bytes are just those of one place.
func isPlace(at, n int) bool {
	return n == placeSize && at%placeSize == 0
}

// touched tells what the places have that n bytes lie in.
func (s *stack) touched(at, n int) []value {
	return s.pointers[at/placeSize : (at+n-1)/placeSize+1]
}

func (s *stack) load(off uint64, n int) value {
	at, ok := find(off, n)
	must(ok, api.TrapAccess)
	if slices.ContainsFunc(s.touched(at, n), func(v value) bool { return v.kind != none }) {
		must(isPlace(at, n), api.TrapType)
		return s.pointers[at/placeSize]
	}
	must(s.known(at, n), api.TrapRead)
	x, _ := words.Load(s.bytes[:], at, n)
	return numberOf(x)
}

// known tells whether n bytes all have values, so that no pointer is among them either.
func (s *stack) known(at, n int) bool {
	return !slices.Contains(s.have[at:at+n], false)
}

func (s *stack) store(off uint64, n int, v value) {
	at, ok := find(off, n)
	must(ok, api.TrapAccess)
	if v.kind == number {
		b := make([]byte, n)
		words.Store(b, 0, n, v.num)
		s.write(at, b)
		return
	}
	must(isPlace(at, n), api.TrapType)
	s.pointers[at/placeSize] = v
	clear(s.have[at : at+n])
}

// write lays bytes where they are all there.
func (s *stack) write(at int, b []byte) {
	clear(s.touched(at, len(b)))
	copy(s.bytes[at:], b)
	for i := range b {
		s.have[at+i] = true
	}
}
