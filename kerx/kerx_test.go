package kerx_test

import (
	"bytes"
	"encoding/binary"
	"math"
	"math/rand"
	"slices"
	"testing"

	"swash/ankr"
	"swash/api"
	"swash/bind"
	"swash/kerx"
	"swash/line"
	"swash/pair"
	"swash/place"
	"swash/stack"
	"swash/view"
)

const (
	stay      = 0x4000
	none      = 0xFFFF
	gone      = api.Deleted
	fits      = 9 // glyphs of the tests' font
	vertical  = 0x80000000
	cross     = 0x40000000
	variation = 0x20000000
	backwards = 0x10000000
)

// words, longs: each one's two, or four, bytes.
func words(l ...int) []byte {
	var b []byte
	for _, n := range l {
		b = binary.BigEndian.AppendUint16(b, uint16(n))
	}
	return b
}

func longs(l ...int) []byte {
	var b []byte
	for _, n := range l {
		b = binary.BigEndian.AppendUint32(b, uint32(n))
	}
	return b
}

// part: a subtable.
type part struct {
	word int
	data []byte
}

// laid: a table's bytes of some subtables.
func laid(parts ...part) []byte {
	b := slices.Concat(words(4, 0xFEDC), longs(len(parts)))
	for _, p := range parts {
		b = slices.Concat(b, longs(12+len(p.data), p.word, 0x98765432), p.data)
	}
	return b
}

// list: pairs and their distances, three numbers each.
func list(l ...int) []byte { return slices.Concat(longs(len(l)/3, 1, 2, 3), words(l...)) }

// square: rows of the glyphs 4 and 5, columns of 6 and 7, and four distances.
func square(l ...int) []byte {
	return slices.Concat(longs(0xABCD, 16, 26, 36), words(8, 4, 2, 0, 4), words(8, 6, 2, 0, 2), words(l...))
}

// index: likewise, in two bytes, or long.
func index(l ...int) []byte {
	return slices.Concat(longs(0, 0, 20, 30, 40), words(8, 4, 2, 0, 2), words(8, 6, 2, 0, 1), words(l...))
}

func long(l ...int) []byte {
	return slices.Concat(longs(1, 0, 20, 36, 52), words(10, 4, 4, 2), longs(0, 2), words(10, 4, 6, 2), longs(0, 1), longs(l...))
}

// machine: a machine's bytes, with room for a place, that does an entry for each of its steps, whatever the glyphs; the last one again for all behind.
func machine(entries ...[2]int) []byte {
	var states, rows []byte
	for i, e := range entries {
		states = append(states, words(i, i, i, i)...)
		rows = append(rows, words(min(i+1, len(entries)-1), e[0], e[1])...)
	}
	states = append(states, make([]byte, 8)...)
	b := slices.Concat(longs(4, 20, 26, 26+len(states), 0), words(8, 0, 0), states, rows)
	binary.BigEndian.PutUint32(b[16:], uint32(len(b)))
	return b
}

// pushes: of the first two glyphs the second one moves by one value, and the first one by another.
func pushes(second, first int) []byte {
	return append(machine([2]int{0x8000, none}, [2]int{0x8000, 0}, [2]int{0, none}), words(second, first|1)...)
}

// binds: each glyph but the first one is bound to it, by its own first point, upon the first one's second one.
func binds() []byte {
	b := append(machine([2]int{0x8000, none}, [2]int{0, 0}), words(1, 0)...)
	b[16] |= bind.Points << 6
	return b
}

// shifts: the second glyph is bound to the first one, and stands off so much more.
func shifts(right, up int) []byte {
	b := append(machine([2]int{0x8000, none}, [2]int{0, 0}, [2]int{0, none}), words(right, up, 0, 0)...)
	b[16] |= bind.Pairs << 6
	return b
}

// rests: the second glyph is moved, and then the machine rests without an end.
func rests() []byte {
	return append(machine([2]int{0x8000, none}, [2]int{0x8000, 0}, [2]int{stay, none}), words(1001)...)
}

// anchors: points of the glyphs 4, 5 and 6.
func anchors(t *testing.T) *ankr.Table {
	t.Helper()
	points := slices.Concat(longs(2), words(1, 2, 3, 4), longs(2), words(10, 20, 30, 40), longs(2), words(100, 200, 300, 400))
	x, e := ankr.Read(slices.Concat(longs(0, 12, 24), words(8, 4, 3, 0, 12, 24), points), fits)
	if e != api.OK {
		t.Fatal("a test's points:", e)
	}
	return x
}

// read: the table that bytes are.
func read(t *testing.T, b []byte) *kerx.Table {
	t.Helper()
	x, e := kerx.Read(b, fits)
	if e != api.OK || x == nil {
		t.Fatal("a test's table:", e)
	}
	return x
}

// far: places that move on so far.
func far(l ...int) []api.Place {
	out := make([]api.Place, len(l))
	for i, n := range l {
		out[i].Advance = int32(n)
	}
	return out
}

// up, right: places that stand off so far.
func up(l ...int) []api.Place {
	out := make([]api.Place, len(l))
	for i, n := range l {
		out[i].Y = int32(n)
	}
	return out
}

func right(l ...int) []api.Place {
	out := make([]api.Place, len(l))
	for i, n := range l {
		out[i].X = int32(n)
	}
	return out
}

func taken(t *testing.T, what string, b []byte, glyphs, n int) {
	t.Helper()
	if x, e := kerx.Read(b, glyphs); x == nil || e != api.OK || x.Len() != n {
		t.Errorf("Read of %s: %v, %v", what, x, e)
	}
	var x *kerx.Table
	if !view.Try(func() { x = kerx.Take(view.Of(b), glyphs) }) || x == nil || x.Len() != n {
		t.Errorf("Take of %s throws, or has another Len", what)
	}
}

func refused(t *testing.T, what string, b []byte, glyphs int) {
	t.Helper()
	if x, e := kerx.Read(b, glyphs); x != nil || e != api.ErrForm {
		t.Errorf("Read of %s: %v, %v", what, x, e)
	}
	if view.Try(func() { kerx.Take(view.Of(b), glyphs) }) {
		t.Errorf("Take of %s doesn't throw", what)
	}
}

// ended: some subtables move glyphs of a line of a direction, until a Fault, if that isn't zero; the line stays as it is.
func ended(t *testing.T, what string, direction int, ids []int, want []api.Place, fault api.Fault, parts ...part) {
	t.Helper()
	b := line.New(ids...)
	was := b.Glyphs()
	p := place.New(direction, make([]int, len(ids))...)
	if f := read(t, laid(parts...)).Run(b, p, direction, anchors(t)); f != fault || !slices.Equal(p.All(), want) {
		t.Errorf("%s: %v, %v, not %v, %v", what, p.All(), f, want, fault)
	}
	if !slices.Equal(b.Glyphs(), was) {
		t.Errorf("%s: the line was changed: %v", what, b.Glyphs())
	}
}

// ran: likewise, without a Fault.
func ran(t *testing.T, what string, direction int, ids []int, want []api.Place, parts ...part) {
	t.Helper()
	ended(t, what, direction, ids, want, api.Fault{}, parts...)
}

func TestConstants(t *testing.T) {
	if kerx.Stack != 1 || kerx.Bind != 4 {
		t.Error("constants", kerx.Stack, kerx.Bind)
	}
}

// P26.1

// kinds: of each kind a subtable that is just long enough.
func kinds() map[int][]byte {
	return map[int][]byte{pair.List: list(4, 5, 6), pair.Square: square(1, 2, 3, 4), pair.Index: index(1, 2, 3, 4), kerx.Stack: pushes(2, 1), kerx.Bind: binds()}
}

// A subtable is one of its kind's layer, within its own bytes; there may be more of these behind.
func TestSubtables(t *testing.T) {
	good := part{pair.List, list(1, 2, 3, 1, 3, 4, 1, 4, 5)}
	for kind, data := range kinds() {
		for _, word := range []int{kind, kind | 0x0FFFFF00, kind | 0x100, kind | vertical, kind | cross, kind | backwards, kind | vertical | cross | backwards} {
			p := part{word, data}
			taken(t, "a subtable", laid(p), fits, 1)
			taken(t, "a subtable among others", laid(good, p, good), fits, 3)
			p.data = slices.Concat(data, []byte{0xFF, 0xFF, 0xFF})
			taken(t, "a subtable of more bytes", laid(p), fits, 1)
			for n := range data {
				p.data = data[:n]
				refused(t, "a subtable of fewer bytes", laid(p), fits)
				refused(t, "a subtable of fewer bytes among others", laid(good, p, good), fits)
			}
		}
	}
	refused(t, "a machine as a List", laid(part{pair.List, pushes(1, 2)}), fits)
	refused(t, "a List as a machine", laid(part{kerx.Stack, list(make([]int, 3)...)}), fits)
}

// One of another kind, or with Variation, is any bytes, and does nothing.
func TestAnyData(t *testing.T) {
	ids := []int{4, 5, 4}
	fine := part{pair.List, list(4, 5, 6)}
	for kind := range 256 {
		words := []int{kind | variation, kind | variation | backwards | 0x0FFFFF00, kind | variation | cross, kind | variation | vertical}
		if _, ok := kinds()[kind]; !ok {
			words = append(words, kind, kind|backwards, kind|cross, kind|vertical, kind|0x0FFFFF00)
		}
		for _, word := range words {
			for _, data := range [][]byte{nil, {1}, pushes(50, 60), list(4, 5, 20), make([]byte, 100)} {
				p := part{word, data}
				taken(t, "any data", laid(p), fits, 1)
				taken(t, "any data among others", laid(fine, p, fine), fits, 3)
				ran(t, "any data, to the right", api.Right, ids, far(12, 0, 0), p, fine, p, fine)
				ran(t, "any data, to the left", api.Left, ids, far(0, 0, 12), p, fine, p, fine)
				ran(t, "any data, down", api.Down, ids, far(0, 0, 0), p, fine, p, fine)
			}
		}
	}
}

func TestReadOfNoTable(t *testing.T) {
	parts := []part{{pair.List, list(4, 5, 6)}, {kerx.Stack, pushes(1, 2)}, {99, nil}, {kerx.Bind, binds()}}
	b := laid(parts...)
	taken(t, "a table", b, fits, 4)
	for n := range b {
		refused(t, "less than a table", b[:n], fits)
	}
	taken(t, "more than a table", append(slices.Clone(b), 0xFF), fits, 4)
	for _, n := range []int{0, 1, 2, 3, 4, 5, 6, 255, 256, 0x0200, 0x0402, 0x8002, 0xFFFF} {
		binary.BigEndian.PutUint16(b, uint16(n))
		if 2 <= n && n <= 4 {
			taken(t, "a version that may be", b, fits, 4)
		} else {
			refused(t, "another version", b, fits)
		}
	}
	b = laid(parts...)
	for _, n := range []int{0, 1, 0x8000, 0xFFFF} {
		binary.BigEndian.PutUint16(b[2:], uint16(n))
		taken(t, "bytes that don't matter", b, fits, 4)
	}
	for _, n := range []int{0, 1, 1 << 31, 1<<32 - 1} {
		binary.BigEndian.PutUint32(b[16:], uint32(n))
		taken(t, "bytes of a subtable that don't matter", b, fits, 4)
	}
}

func TestCounts(t *testing.T) {
	p := part{pair.List, list(4, 5, 6)}
	b := laid(p, p, p)
	for n := range 4 {
		binary.BigEndian.PutUint32(b[4:], uint32(n))
		taken(t, "some of three", b, fits, n)
	}
	for _, n := range []int{4, 5, 0xFFFF, 1 << 31, 1<<32 - 1} {
		binary.BigEndian.PutUint32(b[4:], uint32(n))
		refused(t, "more than three", b, fits)
	}
	taken(t, "none", laid(), fits, 0)
	for n := range 8 {
		refused(t, "less than none", laid()[:n], fits)
	}
	for _, n := range []int{1, 1 << 31, 1<<32 - 1} {
		refused(t, "more than none", slices.Concat(words(2, 0), longs(n)), fits)
	}
	taken(t, "many", laid(slices.Repeat([]part{p}, 5000)...), fits, 5000)
}

// A subtable says itself how many bytes it has, 12 at least; within these it is, and behind them is the next one.
func TestLengths(t *testing.T) {
	free := part{99, nil}
	b := laid(free, free)
	taken(t, "two of twelve bytes", b, fits, 2)
	for _, n := range []int{0, 1, 3, 4, 7, 8, 11, 13, 25, 1 << 31, 1<<32 - 1} {
		binary.BigEndian.PutUint32(b[8:], uint32(n))
		refused(t, "one of another length", b, fits)
	}
	binary.BigEndian.PutUint32(b[8:], 24)
	refused(t, "one that is both", b, fits)
	binary.BigEndian.PutUint32(b[4:], 1)
	taken(t, "one that is both, alone", b, fits, 1)
	for n := range 12 {
		binary.BigEndian.PutUint32(b[8:], uint32(n))
		refused(t, "one that is too short, alone", b, fits)
		one := slices.Clone(laid(free)[:8+max(n, 4)])
		binary.BigEndian.PutUint32(one[8:], uint32(n))
		refused(t, "one that is too short, at the end", one, fits)
	}
	// the data of a List may not go on in the bytes of the next one
	two := laid(part{pair.List, list(4, 5, 6)}, free)
	taken(t, "a List", two, fits, 2)
	binary.BigEndian.PutUint32(two[8:], 12+20)
	copy(two[8+12+20:], longs(14, 99, 0))
	refused(t, "a List beyond its bytes", two, fits)
}

// A lookup of a number for each glyph, which each kind but List may have, has as many as the font has glyphs.
func TestGlyphsOfTheFont(t *testing.T) {
	for kind, data := range kinds() {
		if kind == pair.List {
			continue
		}
		b := slices.Clone(data)
		at := 4
		if kind == pair.Index {
			at = 8
		}
		binary.BigEndian.PutUint32(b[at:], uint32(len(b)))
		b = append(b, words(0, 0, 0, 0, 0, 0)...)
		for glyphs := 1; glyphs < 9; glyphs++ {
			if glyphs <= 5 {
				taken(t, "a lookup of five glyphs", laid(part{kind, b}), glyphs, 1)
			} else {
				refused(t, "a lookup of five glyphs", laid(part{kind, b}), glyphs)
			}
		}
	}
}

// P26.2

func TestReadOfWrongArguments(t *testing.T) {
	for _, glyphs := range []int{0, -1, -65535, 65536, 1<<32 + 1, math.MinInt, math.MaxInt} {
		for _, b := range [][]byte{laid(part{pair.List, list(4, 5, 6)}), laid(), nil, {1}} {
			if x, e := kerx.Read(b, glyphs); x != nil || e != api.ErrArg {
				t.Errorf("Read of %d bytes, %d glyphs: %v, %v", len(b), glyphs, x, e)
			}
		}
	}
	for _, glyphs := range []int{1, 2, fits, 65534, 65535} {
		taken(t, "a number of glyphs that may be", laid(part{kerx.Stack, pushes(1, 2)}), glyphs, 1)
		refused(t, "no bytes", nil, glyphs)
	}
}

// everything: a table of each kind, and what it makes of 4, 6, 5.
func everything() ([]byte, []api.Place) {
	b := laid(
		part{pair.List, list(4, 6, -20, 6, 5, 30)}, part{pair.List | cross, list(4, 6, 7)}, part{pair.Square, square(100, 200, 300, 400)}, part{pair.Index, index(1000, 2000, 3000, 4000)},
		part{pair.Index, long(100000, 200000, 300000, 400000)}, part{kerx.Stack, pushes(10000, 20000)}, part{kerx.Bind, binds()},
	)
	// the squares: of 4 and 6 the first distance, of 6 and 5 the first one, too, which nothing tells another of
	return b, []api.Place{{Advance: 101100 - 20 + 20000}, {Advance: 101100 + 30 + 10000, X: 3 - 100, Y: 7 + 4 - 200}, {X: 3 - 10, Y: 4 - 20}}
}

// moves: a table moves 4, 6, 5 so.
func moves(t *testing.T, what string, x *kerx.Table, want []api.Place) {
	t.Helper()
	p := place.New(api.Right, 0, 0, 0)
	if f := x.Run(line.New(4, 6, 5), p, api.Right, anchors(t)); f != (api.Fault{}) || !slices.Equal(p.All(), want) {
		t.Errorf("%s: %v, %v, not %v", what, p.All(), f, want)
	}
}

func TestTake(t *testing.T) {
	b, want := everything()
	v := view.Of(slices.Concat([]byte{0, 2, 0}, b, []byte{9}))
	var x *kerx.Table
	if !view.Try(func() { x = kerx.Take(v.Rest(3), fits) }) || x == nil || x.Len() != 7 {
		t.Fatal("Take throws")
	}
	moves(t, "Take", x, want)
	if view.Try(func() { kerx.Take(view.View{}, fits) }) || view.Try(func() { kerx.Take(v.Cut(3, len(b)-1), fits) }) || view.Try(func() { kerx.Take(v.Rest(1), fits) }) {
		t.Error("Take of no table doesn't throw")
	}
}

// P2: the font's bytes aren't changed, and Read doesn't keep them; nor does a run leave anything behind in the table.
func TestBytesAreNotKept(t *testing.T) {
	b, want := everything()
	b = append(b, 1, 2, 3)[:len(b)]
	was := bytes.Clone(b[:cap(b)])
	x := read(t, b)
	moves(t, "Read", x, want)
	moves(t, "Take", kerx.Take(view.Of(b), fits), want)
	if !bytes.Equal(b[:cap(b)], was) {
		t.Errorf("the bytes were changed: %x", b)
	}
	for _, n := range []byte{0, 0xFF} {
		for i := range b {
			b[i] = n
		}
		moves(t, "Run behind a change of the bytes", x, want)
		if x.Len() != 7 {
			t.Error("Len behind a change of the bytes", x.Len())
		}
	}
}

func TestNoSubtables(t *testing.T) {
	for _, x := range []*kerx.Table{{}, read(t, laid())} {
		if x.Len() != 0 {
			t.Error("Len of none", x.Len())
		}
		for _, direction := range []int{api.Right, api.Left, api.Down, 3, -1} {
			b, p := line.New(4, gone, 5), place.New(direction, 5, 6, 7)
			if f := x.Run(b, p, direction, anchors(t)); f != (api.Fault{}) || !slices.Equal(p.All(), far(5, 6, 7)) || !slices.Equal(b.Glyphs(), line.New(4, gone, 5).Glyphs()) {
				t.Error("Run of none", p.All(), b.Glyphs(), f)
			}
		}
	}
}

// P26.3

func TestExample(t *testing.T) {
	b, p := line.New(5, 6), place.New(api.Right, 500, 600)
	if f := read(t, laid(part{pair.List, list(5, 6, -20)})).Run(b, p, api.Right, anchors(t)); f != (api.Fault{}) || !slices.Equal(p.All(), far(480, 600)) {
		t.Error("the document's example", p.All(), f)
	}
}

func TestPairs(t *testing.T) {
	l := list(4, 5, 10, 5, 4, 20, 5, 5, -30, 0xFFFF, 0xFFFF, 7)
	for _, c := range []struct{ ids, along, across []int }{
		{nil, nil, nil}, {[]int{4}, []int{0}, []int{0}}, {[]int{4, 5}, []int{10, 0}, []int{0, 10}}, {[]int{5, 4}, []int{20, 0}, []int{0, 20}},
		{[]int{4, 5, 5, 4, 4, 5}, []int{10, -30, 20, 0, 10, 0}, []int{0, 10, -30, 20, 0, 10}}, {[]int{4, gone, 5}, []int{0, 0, 0}, []int{0, 0, 0}},
		{[]int{gone, gone, 4, -1, 1 << 20, 5, 4}, []int{7, 0, 0, 0, 0, 20, 0}, []int{0, 7, 0, 0, 0, 0, 20}},
	} {
		ran(t, "a List", api.Right, c.ids, far(c.along...), part{pair.List, l})
		ran(t, "a List across", api.Right, c.ids, up(c.across...), part{pair.List | cross, l})
		ran(t, "a List down", api.Down, c.ids, far(c.along...), part{pair.List | vertical, l})
		ran(t, "a List down and across", api.Down, c.ids, right(c.across...), part{pair.List | vertical | cross, l})
	}
	// a row, or a column, that a lookup doesn't tell is the first one
	ids := []int{4, 6, 7, 5, 7, 4, 7, 5, 6, 0}
	for kind, l := range map[int][][]byte{pair.Square: {square(1, 2, 3, 4)}, pair.Index: {index(1, 2, 3, 4), long(1, 2, 3, 4)}} {
		for _, data := range l {
			ran(t, "a square", api.Right, ids, far(1, 2, 1, 4, 1, 2, 1, 3, 1, 0), part{kind, data})
			ran(t, "a square across", api.Right, ids, up(0, 1, 2, 1, 4, 1, 2, 1, 3, 1), part{kind | cross, data})
		}
	}
	ran(t, "a long one's edges", api.Right, []int{4, 6, 4, 7}, far(math.MaxInt32, math.MaxInt32-0x8000, math.MinInt32, 0), part{pair.Index, long(math.MaxInt32, math.MinInt32, 0, 0)}, part{pair.List, list(4, 6, 9, 4, 7, -9, 6, 4, -0x8000)})
}

func TestStacks(t *testing.T) {
	ids := []int{4, 5, 6}
	ran(t, "a stack", api.Right, ids, far(20, 10, 0), part{kerx.Stack, pushes(10, 20)})
	ran(t, "a stack across", api.Right, ids, up(20, 10, 0), part{kerx.Stack | cross, pushes(10, 20)})
	ran(t, "a stack across that levels", api.Right, ids, up(20, 0, 0), part{kerx.Stack | cross, pushes(10, 8)}, part{kerx.Stack | cross, pushes(stack.Level, 12)})
	ran(t, "a stack down", api.Down, ids, far(20, 10, 0), part{kerx.Stack | vertical, pushes(10, 20)})
	ran(t, "a stack down and across", api.Down, ids, right(20, 10, 0), part{kerx.Stack | vertical | cross, pushes(10, 20)})
	ran(t, "a stack to the left", api.Left, ids, far(0, 10, 20), part{kerx.Stack, pushes(10, 20)})
	ran(t, "a stack to the left, backwards, across", api.Left, ids, up(20, 10, 0), part{kerx.Stack | backwards | cross, pushes(10, 20)})
}

func TestBinds(t *testing.T) {
	ids := []int{4, 5, 6}
	bound := []api.Place{{}, {X: 3 - 10, Y: 4 - 20}, {X: 3 - 100, Y: 4 - 200}}
	turned := []api.Place{{X: 300 - 1, Y: 400 - 2}, {X: 300 - 10, Y: 400 - 20}, {}}
	for _, bits := range []int{0, cross} { // across is as along
		ran(t, "bound to the right", api.Right, ids, bound, part{kerx.Bind | bits, binds()})
		ran(t, "bound to the left", api.Left, ids, turned, part{kerx.Bind | bits, binds()})
		ran(t, "bound down", api.Down, ids, bound, part{kerx.Bind | bits | vertical, binds()})
		ran(t, "bound to the right, backwards", api.Right, ids, turned, part{kerx.Bind | bits | backwards, binds()})
		ran(t, "bound by pairs", api.Down, ids, []api.Place{{}, {X: 5, Y: -6}, {}}, part{kerx.Bind | bits | vertical, shifts(5, -6)})
	}
	for _, points := range []*ankr.Table{{}, nil} {
		p := place.New(api.Right, 0, 0)
		if f := read(t, laid(part{kerx.Bind, binds()}, part{kerx.Bind, shifts(5, 6)})).Run(line.New(4, 5), p, api.Right, points); f != (api.Fault{}) || !slices.Equal(p.All(), []api.Place{{}, {X: 5, Y: 6}}) {
			t.Error("bound without points", p.All(), f)
		}
	}
}

// Which of them run hangs on the direction.
func TestDirections(t *testing.T) {
	ids := []int{4, 5, 4}
	data := list(4, 5, 10, 5, 4, 20)
	for _, direction := range []int{api.Right, api.Left, api.Down, 3, -1, 1 << 32, math.MinInt, math.MaxInt} {
		for _, bits := range []int{0, vertical, cross, variation, vertical | variation, vertical | cross, variation | cross | backwards} {
			want := far(0, 0, 0)
			runs := bits&variation == 0 && (bits&vertical != 0) == (direction == api.Down) && 0 <= direction && direction <= 2
			switch {
			case runs && direction == api.Left && bits&cross != 0:
				want = up(20, 10, 0)
			case runs && direction == api.Left:
				want = far(0, 20, 10)
			case runs && direction == api.Down && bits&cross != 0:
				want = right(0, 10, 20)
			case runs && bits&cross != 0:
				want = up(0, 10, 20)
			case runs:
				want = far(10, 20, 0)
			}
			ran(t, "a direction", direction, ids, want, part{pair.List | bits, data})
		}
	}
}

// A line to the left, or a subtable that is backwards, is gone through from its end on; both together not.
func TestTurned(t *testing.T) {
	ids := []int{4, 5, 6, 7}
	data := list(4, 5, 1, 5, 4, 2, 5, 6, 3, 6, 5, 4, 6, 7, 5, 7, 6, 6)
	for _, c := range []struct{ direction, bits int }{{api.Right, 0}, {api.Left, backwards}, {api.Down, vertical}} {
		ran(t, "not turned", c.direction, ids, far(1, 3, 5, 0), part{pair.List | c.bits, data})
		ran(t, "turned", c.direction, ids, far(0, 2, 4, 6), part{pair.List | c.bits ^ backwards, data})
		across := up
		if c.direction == api.Down {
			across = right
		}
		ran(t, "across, not turned", c.direction, ids, across(0, 1, 3, 5), part{pair.List | cross | c.bits, data})
		ran(t, "across, turned", c.direction, ids, across(2, 4, 6, 0), part{pair.List | cross | c.bits ^ backwards, data})
		ran(t, "one turned, others not", c.direction, ids, far(2, 8, 14, 6), part{pair.List | c.bits, data}, part{pair.List | c.bits ^ backwards, data}, part{pair.List | c.bits, data})
	}
}

// Subtable by subtable: what one levels, the one behind it moves.
func TestInOrder(t *testing.T) {
	ids := []int{4, 5}
	moved, levelled, more := part{pair.List | cross, list(4, 5, 10)}, part{kerx.Stack | cross, pushes(stack.Level, 1)}, part{kerx.Bind, shifts(3, 100)}
	for _, c := range []struct {
		l    []part
		x, y int
	}{
		{[]part{moved, levelled, more}, 3, 100}, {[]part{moved, more, levelled}, 3, 0}, {[]part{levelled, moved, more}, 3, 110},
		{[]part{levelled, more, moved}, 3, 110}, {[]part{more, levelled, moved}, 3, 10}, {[]part{levelled, moved, levelled, moved}, 0, 10},
	} {
		ran(t, "in order", api.Right, ids, []api.Place{{}, {X: int32(c.x), Y: int32(c.y)}}, c.l...)
	}
}

// What glyphs moved on, and stood off, ahead of all stays.
func TestPlacesAhead(t *testing.T) {
	b, p := line.New(4, 5, 6), place.New(api.Left, 500, 600, 700)
	p.Shift(0, 1, 2)
	p.Shift(2, 3, 4)
	x := read(t, laid(part{pair.List, list(6, 5, 10)}, part{pair.List | cross, list(5, 4, 20)}, part{kerx.Stack | cross, pushes(stack.Level, stack.Level)}))
	if f := x.Run(b, p, api.Left, anchors(t)); f != (api.Fault{}) || !slices.Equal(p.All(), []api.Place{{Advance: 500, X: 1, Y: 22}, {Advance: 600}, {Advance: 710, X: 3}}) {
		t.Error("places ahead", p.All(), f)
	}
}

// The first error ends it; all subtables are counted, those that don't run, too.
func TestFaults(t *testing.T) {
	fine, bad, late, other := part{pair.List, list(4, 5, 10)}, part{kerx.Stack, rests()}, part{pair.List, list(5, 6, 20)}, part{77, nil}
	ids, want := []int{4, 5, 6}, far(10, 1000, 0)
	fault := func(sub int) api.Fault { return api.Fault{Code: api.ErrBudget, Sub: sub} }
	ended(t, "the first one", api.Right, ids, far(0, 1000, 0), fault(0), bad, fine, late)
	ended(t, "the second one", api.Right, ids, want, fault(1), fine, bad, late)
	ended(t, "the first of two", api.Right, ids, want, fault(1), fine, bad, bad, late)
	ended(t, "the last one", api.Right, ids, far(10, 1020, 0), fault(2), fine, late, bad)
	ended(t, "behind others", api.Right, ids, want, fault(3), other, fine, other, bad, late)
	ended(t, "behind one of another direction", api.Right, ids, want, fault(2), fine, part{kerx.Stack | vertical, rests()}, bad, late)
	ended(t, "behind one with Variation", api.Right, ids, want, fault(2), fine, part{kerx.Stack | variation, rests()}, bad, late)
	ended(t, "none of those that run", api.Down, ids, far(0, 0, 0), api.Fault{}, bad, fine, late)
	ended(t, "none that is a direction", 3, ids, far(0, 0, 0), api.Fault{}, bad, fine, late)
	rest := machine([2]int{stay, none})
	ended(t, "a stack", api.Right, ids, far(10, 0, 0), fault(1), fine, part{kerx.Stack, rest}, late)
	for kind := range 4 {
		rest[16] = byte(kind << 6)
		ended(t, "one that binds", api.Right, ids, far(10, 0, 0), fault(1), fine, part{kerx.Bind, rest}, late)
	}
}

// What was done ahead of an error stays, and the line and its places are turned again.
func TestTurnedBesideAFault(t *testing.T) {
	fine := part{pair.List, list(4, 5, 10, 7, 6, 20)}
	ids := []int{4, 5, 6, 7}
	for _, c := range []struct {
		direction, bits int
		want            []int
	}{
		{api.Right, 0, []int{10, 1000, 0, 0}}, {api.Right, backwards, []int{10, 0, 1000, 0}}, {api.Left, 0, []int{0, 0, 1000, 20}}, {api.Left, backwards, []int{0, 1000, 0, 20}},
	} {
		ended(t, "a direction", c.direction, ids, far(c.want...), api.Fault{Code: api.ErrBudget, Sub: 1}, fine, part{kerx.Stack | c.bits, rests()}, fine)
	}
}

func TestLongLine(t *testing.T) {
	const n = 65536
	b := line.New(slices.Repeat([]int{4, 5}, n/2)...)
	was := b.Glyphs()
	p := place.New(api.Left, make([]int, n)...)
	var parts []part
	for range 10 {
		parts = append(parts, part{pair.List, list(4, 5, 1, 5, 4, 2)}, part{pair.Square | backwards, square(3, 3, 3, 3)}, part{kerx.Bind, binds()})
	}
	if f := read(t, laid(parts...)).Run(b, p, api.Left, anchors(t)); f != (api.Fault{}) || !slices.Equal(b.Glyphs(), was) {
		t.Fatal("a long line", f)
	}
	for i, g := range p.All() {
		want := []api.Place{{Advance: 10*1 + 30, X: 10 * (30 - 1), Y: 10 * (40 - 2)}, {Advance: 10*2 + 30, X: 10 * (30 - 10), Y: 10 * (40 - 20)}}[i%2]
		switch i { // the first one has none ahead of it, to the left, nor the last one behind it; that is the mark, too
		case 0:
			want.Advance = 30
		case n - 1:
			want = api.Place{Advance: 20}
		}
		if g != want {
			t.Fatalf("a long line: the place %d is %v, not %v", i, g, want)
		}
	}
}

// Several hold one table at once, and none is told of the others.
func TestAtOnce(t *testing.T) {
	b, want := everything()
	x, points := read(t, b), anchors(t)
	done := make(chan []api.Place)
	for range 8 {
		go func() {
			p := place.New(api.Right, 0, 0, 0)
			x.Run(line.New(4, 6, 5), p, api.Right, points)
			done <- p.All()
		}()
	}
	for range 8 {
		if l := <-done; !slices.Equal(l, want) {
			t.Error("Run at once", l)
		}
	}
}

// P1: fewer, or more, places than glyphs, made for another direction: it ends.
func TestOtherPlaces(t *testing.T) {
	b, _ := everything()
	x := read(t, b)
	for n := range 6 {
		for direction := range 3 {
			x.Run(line.New(4, 6, 5), place.New(2-direction, make([]int, n)...), direction, anchors(t))
		}
	}
}

// modelled: a run as the document says, by the layers' own calls.
func modelled(parts []part, b *line.Line, p *place.Places, direction int, points *ankr.Table) api.Fault {
	for i, s := range parts {
		if direction < 0 || direction > 2 || (s.word&vertical != 0) != (direction == 2) || s.word&variation != 0 {
			continue
		}
		turned := (s.word&backwards != 0) != (direction == 1)
		if turned {
			b.Turn()
			p.Turn()
		}
		e := alone(s, b, p, points)
		if turned {
			b.Turn()
			p.Turn()
		}
		if e != api.OK {
			return api.Fault{Code: e, Chain: 0, Sub: i}
		}
	}
	return api.Fault{}
}

// alone: what a subtable does to places by its layer.
func alone(s part, b *line.Line, p *place.Places, points *ankr.Table) api.Errno {
	switch kind := s.word % 256; kind {
	case 0, 2, 6:
		x, _ := pair.Read(kind, s.data, fits)
		for i := 1; i < b.Len(); i++ {
			left, _ := b.At(i - 1)
			right, _ := b.At(i)
			if far := x.Get(left.ID, right.ID); s.word&cross != 0 {
				p.Across(i, far)
			} else {
				p.Along(i-1, far)
			}
		}
	case 1:
		x, _ := stack.Read(s.data, fits)
		return x.Run(b, p, s.word&cross != 0)
	case 4:
		x, _ := bind.Read(s.data, fits)
		return x.Run(b, p, points)
	}
	return api.OK
}

// some: subtables of any kinds.
func some(r *rand.Rand) []part {
	n := func() int { return []int{r.Intn(2000) - 1000, r.Intn(1<<16) - 1<<15}[r.Intn(2)] }
	parts := make([]part, r.Intn(8))
	for i := range parts {
		of := [][]byte{
			list(4, 5, n(), 4, 6, n(), 5, 4, n(), 6, 5, n()), pushes(n()&^1, n()), square(n(), n(), n(), n()), make([]byte, r.Intn(9)), binds(), nil, index(n(), n(), n(), n()), nil,
		}
		kind := r.Intn(len(of))
		p := part{kind | r.Intn(16)<<28 | r.Intn(1<<20)<<8, of[kind]}
		for _, bit := range []int{vertical, variation} {
			if r.Intn(4) > 0 {
				p.word &^= bit
			}
		}
		switch {
		case kind == kerx.Stack && r.Intn(2) == 0:
			p.data = rests()
		case kind == kerx.Stack && r.Intn(4) == 0:
			p.data = pushes(stack.Level, n())
		case kind == kerx.Bind && r.Intn(2) == 0:
			p.data = shifts(n(), n())
		case kind == pair.Index && r.Intn(2) == 0:
			p.data = long(n(), n()*70000, n(), n())
		}
		parts[i] = p
	}
	return parts
}

func TestAnyRuns(t *testing.T) {
	r := rand.New(rand.NewSource(26))
	points := anchors(t)
	fine, not, moved := 0, 0, 0
	for range 20000 {
		parts := some(r)
		ids := make([]int, r.Intn(8))
		advances := make([]int, len(ids))
		for i := range ids {
			ids[i] = []int{r.Intn(10), 4 + r.Intn(3), 4 + r.Intn(4), gone}[r.Intn(4)]
			advances[i] = []int{r.Intn(1000), math.MaxInt32 - r.Intn(900), math.MinInt32 + r.Intn(900)}[r.Intn(3)]
		}
		direction := r.Intn(13) / 4
		b, p, q := line.New(ids...), place.New(direction, advances...), place.New(direction, advances...)
		was := p.All()
		want := modelled(parts, line.New(ids...), q, direction, points)
		x := read(t, laid(parts...))
		if f := x.Run(b, p, direction, points); f != want || !slices.Equal(p.All(), q.All()) || !slices.Equal(b.Glyphs(), line.New(ids...).Glyphs()) {
			t.Fatalf("a run of %v along %v to %d: %v, %v, not %v, %v", parts, ids, direction, p.All(), f, q.All(), want)
		}
		if x.Len() != len(parts) {
			t.Fatalf("Len of %v: %d", parts, x.Len())
		}
		if want == (api.Fault{}) {
			fine++
		} else {
			not++
		}
		if !slices.Equal(was, p.All()) {
			moved++
		}
	}
	if fine < 3000 || not < 1000 || moved < 3000 {
		t.Error("too few runs came to their ends, or none, or moved glyphs", fine, not, moved)
	}
}

// P1: whatever bytes there are, Read ends, and so does a run of what it answers.
func TestAnyBytes(t *testing.T) {
	r := rand.New(rand.NewSource(126))
	points := anchors(t)
	ran, not := 0, 0
	for range 20000 {
		b := laid(some(r)...)
		for range 1 + r.Intn(3) {
			b[r.Intn(len(b))] = byte([]int{r.Intn(256), r.Intn(9), 0, 0xFF}[r.Intn(4)])
		}
		x, e := kerx.Read(b, 1+r.Intn(12))
		if (x == nil) != (e != api.OK) || e != api.OK && e != api.ErrForm {
			t.Fatalf("Read of %x: %v, %v", b, x, e)
		}
		if e != api.OK {
			not++
			continue
		}
		ran++
		ids := []int{r.Intn(9), r.Intn(9), gone, -1, math.MaxInt, math.MinInt}
		p := place.New(r.Intn(3), ids...)
		f := x.Run(line.New(ids...), p, r.Intn(5)-1, points)
		if f != (api.Fault{}) && (f.Code != api.ErrBudget || f.Chain != 0 || f.Sub < 0 || f.Sub >= x.Len()) || p.Len() != len(ids) {
			t.Fatalf("Run of %x: %v, %v", b, p.All(), f)
		}
	}
	if ran < 3000 || not < 3000 {
		t.Error("too few tables were read, or refused", ran, not)
	}
}
