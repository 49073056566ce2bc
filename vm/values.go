package vm

// trap is why a run ended without a result. A step that can't be done panics with it.
type trap int

// must ends the run with a trap, unless it holds.
func must(holds bool, why trap) {
	if !holds {
		panic(why)
	}
}

// kind tells what a value is.
type kind byte

const (
	none kind = iota
	number
	toStack
	toContext
	toObject
	toSlot
	toRecord
	aMap
)

// value that a register has, or eight bytes of the stack.
type value struct {
	kind kind
	// num is a number, or a pointer's offset as one modulo 2^64.
	num uint64
	// which is an object's place in the context, a slot's number, a record's, or a map's.
	which int
	// in is the map that a slot is in.
	in int
}

func numberOf(x uint64) value {
	return value{kind: number, num: x}
}

// isPointer is false of a map: it has no offset.
func (v value) isPointer() bool {
	switch v.kind {
	case toStack, toContext, toObject, toSlot, toRecord:
		return true
	}
	return false
}

// index tells a place as one among n; n, where none of these is, of one that is none of them.
func index(at uint64, n int) int {
	if at < uint64(n) {
		return int(at)
	}
	return n
}
