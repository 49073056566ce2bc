package steps

import (
	"slices"

	"halberd/objs"
)

// load tells what n bytes have.
func (x *Run) load(p Value, off int64, n int) (Value, int) {
	if p.What == "" {
		return Value{}, 1
	}
	if !p.Points() {
		return Value{}, 3
	}
	off += p.Off
	if p.What == "stack" {
		return x.loadCells(off, n)
	}
	if p.What == "ctx" {
		return x.loadWord(off, n)
	}
	var b []byte
	switch p.What {
	case "obj":
		for _, f := range x.Context.Objs[p.No].F {
			for k := range 8 {
				b = append(b, byte(f>>(8*k)))
			}
		}
	case "slot", "rec":
		b = x.bytes(p)
	}
	if off < 0 || off > int64(len(b)) || int(off)+n > len(b) {
		return Value{}, 2
	}
	got := Value{What: "num"}
	for k := range n {
		got.Num |= uint64(b[int(off)+k]) << (8 * k)
	}
	return got, 0
}

func (x *Run) loadWord(off int64, n int) (Value, int) {
	for i := range 8 {
		if off != int64(8*i) || n != 8 {
			continue
		}
		num, place, ok := objs.Word(x.Context, i)
		switch {
		case !ok:
			return Value{}, 2
		case place >= 0:
			return Value{What: "obj", No: place}, 0
		}
		return Value{What: "num", Num: num}, 0
	}
	return Value{}, 2
}

// bytes tells those of a slot, or of a record of this run, themselves.
func (x *Run) bytes(p Value) []byte {
	if p.What == "slot" {
		b, _ := x.Maps.Slot(p.No, p.Slot)
		return b
	}
	if !slices.Contains(x.Mine, p.No) {
		return nil
	}
	b, _ := x.Ring.Record(p.No)
	return b
}

func (x *Run) loadCells(off int64, n int) (Value, int) {
	if off < -64 || off > int64(-n) {
		return Value{}, 2
	}
	got, trap := Value{What: "num"}, 0
	for k := range n {
		switch at := x.Cells[int(off)+64+k]; at.What {
		case "piece":
			if n == 8 && off%8 == 0 {
				return at.Piece, 0
			}
			return Value{}, 3
		case "":
			// A piece behind it would come first.
			trap = 1
		default:
			got.Num += uint64(at.B) << (8 * k)
		}
	}
	if trap != 0 {
		return Value{}, trap
	}
	return got, 0
}

// lay lays a number's byte on a cell; of what had that cell no piece is left.
func (x *Run) lay(at int, b byte) {
	if x.Cells[at].What == "piece" {
		for k := range 8 {
			x.Cells[at-at%8+k] = Cell{}
		}
	}
	x.Cells[at] = Cell{What: "byte", B: b}
}

func (x *Run) store(p Value, off int64, n int, v Value) int {
	switch {
	case p.What == "":
		return 1
	case !p.Points():
		return 3
	case v.What == "":
		return 1
	case p.What == "ctx" || p.What == "obj":
		return 2
	case p.What != "stack" && v.What != "num":
		return 3
	}
	off += p.Off
	if p.What == "stack" {
		return x.storeCells(off, n, v)
	}
	b := x.bytes(p)
	if off < 0 || off > int64(len(b)) || int(off)+n > len(b) {
		return 2
	}
	for k := range n {
		b[int(off)+k] = byte(v.Num >> (8 * k))
	}
	return 0
}

func (x *Run) storeCells(off int64, n int, v Value) int {
	if off < -64 || off > int64(-n) {
		return 2
	}
	if v.What != "num" && (n != 8 || off%8 != 0) {
		return 3
	}
	for k := range n {
		at := int(off) + 64 + k
		if v.What == "num" {
			x.lay(at, byte(v.Num>>(8*k)))
		} else {
			x.Cells[at] = Cell{What: "piece", Piece: v}
		}
	}
	return 0
}
