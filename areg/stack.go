package areg

import "halberd/api"

// placeSize is how many bytes one of the stack's places has.
const placeSize = 8

// find tells where n bytes of the stack are, from its lowest one on, and whether it is these, and they are all there.
func find(p api.Abs, n int) (int, bool) {
	at := p.Lo + api.StackSize
	// Of two offsets it wouldn't be known which bytes they are.
	return at, p.Kind == api.AbsStack && p.Lo == p.Hi && at >= 0 && at <= api.StackSize-n
}

// isPlace tells whether n bytes are just those of one place.
func isPlace(at, n int) bool {
	return n == placeSize && at%placeSize == 0
}

// filled tells a place that a value fills.
func filled(v api.Abs) api.APlace {
	p := api.APlace{V: v}
	for b := range p.Have {
		p.Have[b] = v.Kind == api.AbsNum
	}
	return p
}

// hasOther tells whether something else than a number fills a place, so that none of its bytes has a value.
func hasOther(p api.APlace) bool {
	return p.V.Kind != api.AbsNone && p.V.Kind != api.AbsNum
}

func (k *known) fromStack(p api.Abs, n int) (api.Abs, bool) {
	at, ok := find(p, n)
	if !ok {
		return api.Abs{}, false
	}
	if v := k.Places[at/placeSize].V; isPlace(at, n) && v.Kind != api.AbsNone {
		return v, true
	}
	return unsigned(n), k.haveValues(at, n)
}

// haveValues tells whether n bytes are all a number's.
func (k *known) haveValues(at, n int) bool {
	for b := at; b < at+n; b++ {
		if p := k.Places[b/placeSize]; hasOther(p) || !p.Have[b%placeSize] {
			return false
		}
	}
	return true
}

func (k *known) toStack(p api.Abs, n int, v api.Abs) bool {
	at, ok := find(p, n)
	switch {
	case !ok:
		return false
	case isPlace(at, n):
		k.Places[at/placeSize] = filled(v)
	case v.Kind != api.AbsNum:
		return false
	default:
		k.write(at, n)
	}
	return true
}

// write gives n bytes values, of which nothing is known.
func (k *known) write(at, n int) {
	for b := at; b < at+n; b++ {
		p := &k.Places[b/placeSize]
		if hasOther(*p) {
			clear(p.Have[:])
		}
		p.V = api.Abs{}
		p.Have[b%placeSize] = true
	}
}
