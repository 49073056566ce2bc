package objs

import (
	"bytes"
	"math"
	"reflect"
	"strconv"
	"strings"
	"testing"

	"halberd/api"
	"halberd/hooks"
	"halberd/samples"
)

// sizes are those that a load may have.
func sizes() []int { return []int{1, 2, 4, 8} }

// bytesOf tells an object's bytes, byte by byte.
func bytesOf(o api.Obj) []byte {
	var b []byte
	for _, x := range o.F {
		for range 8 {
			b = append(b, byte(x%256))
			x /= 256
		}
	}
	return b
}

// loadAgain is Load told once more, from the highest byte on.
func loadAgain(o api.Obj, at int64, size int) (uint64, bool) {
	if size != 1 && size != 2 && size != 4 && size != 8 || at < 0 || at > int64(64-size) {
		return 0, false
	}
	var x uint64
	b := bytesOf(o)[at:][:size]
	for i := size - 1; i >= 0; i-- {
		x = x*256 + uint64(b[i])
	}
	return x, true
}

func holdLoad(t *testing.T, o api.Obj, at int64, size int) {
	t.Helper()
	x, ok := loadAgain(o, at, size)
	if got, gotOk := Load(o, at, size); got != x || gotOk != ok {
		t.Fatalf("Load(%+v, %d, %d): %#x, %v, not %#x, %v", o, at, size, got, gotOk, x, ok)
	}
}

// drawnObj draws an object of either type; its fields have no byte 0.
func drawnObj(seed *uint64) api.Obj {
	o := []api.Obj{samples.Task(3), samples.Inode(3)}[samples.Below(seed, 2)]
	for i := range o.F {
		for range 8 {
			o.F[i] = o.F[i]<<8 | uint64(1+samples.Below(seed, 255))
		}
	}
	return o
}

func TestLoadOfAMode(t *testing.T) { // P17.1
	o := samples.Inode(1)
	o.F[2] = 0o100644
	if x, ok := Load(o, 16, 8); x != 0o100644 || !ok {
		t.Errorf("an inode's mode, at 16: %#o, %v", x, ok)
	}
	o.F = [8]uint64{0, 0x0807060504030201, 0x11}
	for _, c := range []struct {
		at   int64
		size int
		x    uint64
	}{{8, 1, 1}, {8, 2, 0x0201}, {8, 4, 0x04030201}, {8, 8, 0x0807060504030201}, {9, 8, 0x1108070605040302}, {15, 1, 8}, {15, 2, 0x1108}, {5, 4, 0x01000000}, {7, 1, 0}} {
		if x, ok := Load(o, c.at, c.size); x != c.x || !ok {
			t.Errorf("Load at %d, %d bytes: %#x, %v, not %#x", c.at, c.size, x, ok, c.x)
		}
	}
}

func TestEachFieldByItsName(t *testing.T) { // P17.1
	seed := uint64(1)
	fields := map[int]string{1: "pid ppid uid gid exe gen tracer files", 2: "ino kind mode uid gid links size gen"}
	for typ, names := range fields {
		for i, name := range strings.Fields(names) {
			o := drawnObj(&seed)
			o.Type = typ
			at, ok := hooks.Field(typ, name)
			if x, there := Load(o, int64(at), 8); x != o.F[i] || !ok || !there {
				t.Errorf("%s of type %d: %#x, %v, not %#x", name, typ, x, there, o.F[i])
			}
			for _, size := range sizes() {
				low := o.F[i] << (64 - 8*size) >> (64 - 8*size)
				if x, there := Load(o, int64(at), size); x != low || !there {
					t.Errorf("%d bytes of %s: %#x, %v, not %#x", size, name, x, there, low)
				}
			}
		}
	}
}

func TestEachPlaceAndSize(t *testing.T) { // P17.1
	seed := uint64(2)
	for range 20 {
		o := drawnObj(&seed)
		for at := int64(-70); at <= 140; at++ {
			for size := -2; size <= 17; size++ {
				holdLoad(t, o, at, size)
			}
		}
	}
}

func TestTheLastBytes(t *testing.T) { // P17.1
	o := samples.Task(1)
	for _, c := range []struct {
		at   int64
		size int
		ok   bool
	}{
		{56, 8, true}, {57, 8, false}, {60, 4, true}, {61, 4, false}, {62, 2, true}, {63, 2, false}, {63, 1, true}, {64, 1, false}, {64, 8, false},
		{63, 8, false}, {63, 4, false}, {-1, 1, false}, {-1, 2, false}, {-8, 8, false}, {0, 8, true}, {0, 0, false}, {0, 3, false}, {0, 5, false}, {0, 16, false}, {0, 64, false}, {0, -1, false}, {0, -8, false},
	} {
		if x, ok := Load(o, c.at, c.size); ok != c.ok || !ok && x != 0 {
			t.Errorf("Load at %d, %d bytes: %#x, %v", c.at, c.size, x, ok)
		}
	}
}

func TestPlacesFarOff(t *testing.T) { // P17.1
	seed := uint64(3)
	o := drawnObj(&seed)
	far := []int64{math.MinInt64, math.MinInt64 + 1, math.MinInt64 + 8, math.MaxInt64, math.MaxInt64 - 7, math.MaxInt64 - 63, 1 << 31, 1<<31 - 1, -1 << 31, 1 << 32, 1<<32 + 8, -1 << 32, -1<<32 + 8, 256, 1<<16 + 8, 1 << 61}
	for _, at := range far {
		for _, size := range append(samples.NoSizes(), sizes()...) {
			holdLoad(t, o, at, size)
		}
	}
	for at := int64(-1); at <= 65; at++ {
		for _, size := range samples.NoSizes() {
			if x, ok := Load(o, at, size); x != 0 || ok {
				t.Errorf("Load at %d, %d bytes: %#x, %v", at, size, x, ok)
			}
		}
	}
}

func TestObjectsAreLoadedByTheirFieldsAlone(t *testing.T) { // P17.1
	seed := uint64(4)
	for range 200 {
		o := drawnObj(&seed)
		other := api.Obj{Type: samples.Below(&seed, 6) - 2, F: o.F, Path: "/x", Up: []int{4}, Key: api.Key{Id: 1, Gen: 2}}
		for at := int64(-1); at <= 65; at++ {
			for _, size := range sizes() {
				holdLoad(t, other, at, size)
			}
		}
	}
}

// holdPath holds what is told of a path against bytes that are laid one by one.
func holdPath(t *testing.T, o api.Obj, n int) {
	t.Helper()
	var want []byte
	many := 0
	if n >= 1 && n <= 32 {
		for i := range n {
			if i < len(o.Path) {
				want, many = append(want, o.Path[i]), i+1
			} else {
				want = append(want, 0)
			}
		}
	}
	if b, got := Path(o, n); !bytes.Equal(b, want) || got != many {
		t.Fatalf("Path of %q, %d: %v, %d, not %v, %d", o.Path, n, b, got, want, many)
	}
}

func TestPathByHand(t *testing.T) { // P17.3
	o := api.Obj{Type: api.TypeInode, Path: "/ab"}
	for _, c := range []struct {
		n    int
		b    string
		many int
	}{{1, "/", 1}, {2, "/a", 2}, {3, "/ab", 3}, {4, "/ab\x00", 3}, {5, "/ab\x00\x00", 3}, {0, "", 0}, {-1, "", 0}, {33, "", 0}} {
		if b, many := Path(o, c.n); string(b) != c.b || many != c.many {
			t.Errorf("Path of %d: %q, %d", c.n, b, many)
		}
	}
	b, many := Path(o, api.MaxValue)
	if string(b) != "/ab"+strings.Repeat("\x00", 29) || many != 3 {
		t.Errorf("Path of MaxValue: %q, %d", b, many)
	}
	if b, many := Path(o, api.MaxValue+1); len(b) != 0 || many != 0 {
		t.Errorf("Path of one more than MaxValue: %q, %d", b, many)
	}
	if b, many := Path(api.Obj{Type: api.TypeInode}, 2); string(b) != "\x00\x00" || many != 0 {
		t.Errorf("of the empty path: %q, %d", b, many)
	}
}

func TestPathsShorterAsLongAndLonger(t *testing.T) { // P17.3
	seed := uint64(5)
	for length := range 70 {
		o := samples.Inode(1)
		o.Path = string(samples.Bytes(length, &seed))
		for n := -2; n <= 70; n++ {
			holdPath(t, o, n)
		}
		for _, n := range samples.Outside(1, 32) {
			if b, many := Path(o, n); len(b) != 0 || many != 0 {
				t.Errorf("Path of %d: %v, %d", n, b, many)
			}
		}
	}
}

func TestPathsOfAnyBytes(t *testing.T) { // P17.3
	for _, path := range []string{"/", "\x00", "\x00\x00/a", "/\x00b", "/\xff\xfe", "/\u00e4\u20ac", "a/b", strings.Repeat("/x", 1<<16), strings.Repeat("\x00", 40)} {
		for _, typ := range []int{0, 1, 2, 3, -1} {
			for n := range 34 {
				holdPath(t, api.Obj{Type: typ, Path: path}, n)
			}
		}
	}
}

func TestAPathThatWasToldIsWrittenOver(t *testing.T) { // P17.3
	seed := uint64(6)
	for length := range 40 {
		o := samples.Inode(1)
		path := samples.Bytes(length, &seed)
		o.Path = string(path)
		for n := 1; n <= 32; n++ {
			b, _ := Path(o, n)
			was, _ := Path(o, n)
			kept := bytes.Clone(was)
			samples.TurnAll(b[:cap(b)])
			samples.TurnAll(append(b, 1, 2, 3))
			holdPath(t, o, n)
			if o.Path != string(path) || !bytes.Equal(was, kept) {
				t.Fatalf("%q is %q now, what was told %v", path, o.Path, was)
			}
		}
	}
}

// insideAgain is Inside told once more, by the numbers as they are written.
func insideAgain(up []int, pid uint64) bool {
	for _, p := range up {
		if strconv.Itoa(p) == strconv.FormatUint(pid, 10) {
			return true
		}
	}
	return false
}

func TestInside(t *testing.T) { // P17.3
	o := samples.Task(1)
	for _, up := range [][]int{nil, {}, {1}, {5, 3, 1}, {2, 2, 2}, {1, 2, 3, 4, 5, 6, 7, 8}, {0}, {math.MaxInt}, {7, math.MaxInt, 1 << 32, 256}} {
		o.Up = up
		for _, pid := range append(someWords(), math.MaxInt64, math.MaxInt64-1) {
			if got := Inside(o, pid); got != insideAgain(up, pid) {
				t.Errorf("is %d inside %v? %v", pid, up, got)
			}
		}
	}
}

func TestNumbersBelowZeroAreNoPids(t *testing.T) { // P17.3
	below := []int{-1, -2, -8, -128, -256, -1 << 16, -1 << 31, -1 << 32, math.MinInt + 1, math.MinInt}
	for _, n := range below {
		for _, up := range [][]int{{n}, {5, n}, {n, 5}, {5, n, 7}, {n, n}, below} {
			o := samples.Task(1)
			o.Up = up
			for _, p := range append([]int{0, 5, 7, -n, math.MaxInt}, below...) {
				pid := uint64(p)
				for _, x := range []uint64{pid, pid - 1, pid + 1, ^pid, pid & math.MaxUint32, pid & math.MaxInt64} {
					if got := Inside(o, x); got != insideAgain(up, x) {
						t.Errorf("is %d inside %v? %v", x, up, got)
					}
				}
			}
		}
	}
}

func TestInsideEachPid(t *testing.T) { // P17.3
	seed := uint64(7)
	for n := range 12 {
		o := samples.Task(1)
		o.Up = samples.Shuffled(n, &seed)
		spare := append(o.Up, 50, 51)
		o.Up = spare[:n]
		for _, pid := range o.Up {
			if !Inside(o, uint64(pid)) {
				t.Errorf("%d isn't inside %v", pid, o.Up)
			}
			if Inside(o, uint64(pid)+1<<32) || Inside(o, uint64(pid)+1<<63) || Inside(o, uint64(n)) {
				t.Errorf("others are inside %v", o.Up)
			}
		}
		if Inside(o, 50) || Inside(o, 51) {
			t.Errorf("what is behind %v is inside", o.Up)
		}
	}
}

func TestInsideGoesByTheListAlone(t *testing.T) { // P17.3
	o := api.Obj{Key: api.Key{Id: 4, Gen: 5}, F: [8]uint64{6, 7, 8}, Up: []int{9}}
	for _, typ := range []int{0, 1, 2, 3} {
		o.Type = typ
		for pid := range uint64(12) {
			if Inside(o, pid) != (pid == 9) {
				t.Errorf("is %d inside %v, of type %d?", pid, o.Up, typ)
			}
		}
	}
}

func TestKey(t *testing.T) { // P17.4
	for _, typ := range []int{0, 1, 2, 3} {
		for _, id := range samples.Ends() {
			for _, gen := range samples.Ends() {
				o := samples.Task(3)
				o.Type, o.Key = typ, api.Key{Id: id, Gen: gen}
				if got := Key(o); got.Id != id || got.Gen != gen {
					t.Errorf("Key of {%d %d}: %v", id, gen, got)
				}
			}
		}
	}
}

func TestObjectsStayAsTheyAre(t *testing.T) { // P17.1, P17.3, P17.4
	seed := uint64(8)
	for range 500 {
		o := drawnObj(&seed)
		o.Up = append(make([]int, 0, 8), o.Up...)
		was := samples.DeepObj(o)
		Load(o, int64(samples.Below(&seed, 66)-1), 8)
		Path(o, samples.Below(&seed, 34))
		Inside(o, uint64(samples.Below(&seed, 5)))
		Key(o)
		if now := samples.DeepObj(o); !reflect.DeepEqual(now, was) {
			t.Fatalf("%+v is %+v now", was, now)
		}
	}
}
