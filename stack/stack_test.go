package stack_test

import (
	"bytes"
	"encoding/binary"
	"math"
	"math/rand"
	"slices"
	"testing"

	"swash/api"
	"swash/line"
	"swash/place"
	"swash/stack"
	"swash/view"
)

const (
	push    = 0x8000
	stay    = 0x4000
	reset   = 0x2000
	none    = 0xFFFF
	gone    = api.Deleted
	classes = 8 // of the glyphs 4 to 7, which have these as classes
	fits    = 9 // glyphs of the tests' font
	ended   = 3 // a glyph that has the class of the line's end, 0
	head    = 20
)

// words, longs: each one's two, or four, bytes.
func words(l ...int) []byte {
	var b []byte
	for _, n := range l {
		b = binary.BigEndian.AppendUint16(b, uint16(n))
	}
	return b
}

func longs(l ...int) []byte {
	var b []byte
	for _, n := range l {
		b = binary.BigEndian.AppendUint32(b, uint32(n))
	}
	return b
}

// machine: a machine's bytes, and where its lookup, its states and its entries stand in them.
func machine(states [][]int, entries []api.Entry) (b []byte, at [3]int) {
	of := words(8, ended, 5, 0, 4, 5, 6, 7)
	at[0] = head
	at[1] = at[0] + len(of)
	at[2] = at[1] + 2*classes*len(states)
	b = slices.Concat(longs(classes, at[0], at[1], at[2], 0), of)
	for _, s := range states {
		b = append(b, words(s...)...)
	}
	for _, e := range entries {
		b = append(b, words(e.Next, e.Flags, e.A)...)
	}
	return b, at
}

// laid: a subtable's bytes: the machine, and behind it the values.
func laid(states [][]int, entries []api.Entry, values ...int) []byte {
	b, _ := machine(states, entries)
	binary.BigEndian.PutUint32(b[16:], uint32(len(b)))
	return append(b, words(values...)...)
}

// steps: a machine that does an entry for each of its steps, whatever the glyphs; the last one again for all behind.
func steps(entries ...api.Entry) ([][]int, []api.Entry) {
	var states [][]int
	out := slices.Clone(entries)
	for i := range out {
		states = append(states, slices.Repeat([]int{i}, classes))
		out[i].Next = min(i+1, len(out)-1)
	}
	if len(states) < 2 {
		states = append(states, make([]int, classes))
	}
	return states, out
}

// is: an entry of flags, and of the number of a value.
func is(flags, a int) api.Entry { return api.Entry{Flags: flags, A: a} }

// nothing, keep: an entry that does nothing, and one that keeps its place alone.
var (
	nothing = is(0, none)
	keep    = is(push, none)
)

// table: the subtable that bytes begin with.
func table(t *testing.T, b []byte) *stack.Table {
	t.Helper()
	x, e := stack.Read(b, fits)
	if e != api.OK || x == nil {
		t.Fatal("a test's subtable:", e)
	}
	return x
}

// advances: how far places move on; they don't stand off.
func advances(l ...int) []api.Place {
	out := make([]api.Place, len(l))
	for i, n := range l {
		out[i].Advance = int32(n)
	}
	return out
}

// ups: how far up places stand off; they don't move on.
func ups(l ...int) []api.Place {
	out := make([]api.Place, len(l))
	for i, n := range l {
		out[i].Y = int32(n)
	}
	return out
}

// ran: steps of some entries, and some values, move as many glyphs as there are places wanted.
func ran(t *testing.T, what string, cross bool, want []api.Place, values []int, entries ...api.Entry) {
	t.Helper()
	states, all := steps(entries...)
	b := line.New(slices.Repeat([]int{5}, len(want))...)
	was := b.Glyphs()
	p := place.New(api.Right, make([]int, len(want))...)
	if e := table(t, laid(states, all, values...)).Run(b, p, cross); e != api.OK || !slices.Equal(p.All(), want) {
		t.Errorf("%s: %v, %v, not %v", what, p.All(), e, want)
	}
	if !slices.Equal(b.Glyphs(), was) {
		t.Errorf("%s: the line was changed: %v", what, b.Glyphs())
	}
}

// along: as ran, not across the line; how far the glyphs move on.
func along(t *testing.T, what string, want, values []int, entries ...api.Entry) {
	t.Helper()
	ran(t, what, false, advances(want...), values, entries...)
}

// across: as ran, across the line; how far up the glyphs stand off.
func across(t *testing.T, what string, want, values []int, entries ...api.Entry) {
	t.Helper()
	ran(t, what, true, ups(want...), values, entries...)
}

func taken(t *testing.T, what string, b []byte, glyphs int) {
	t.Helper()
	if x, e := stack.Read(b, glyphs); x == nil || e != api.OK {
		t.Errorf("Read of %s: %v, %v", what, x, e)
	}
	var x *stack.Table
	if !view.Try(func() { x = stack.Take(view.Of(b), glyphs) }) || x == nil {
		t.Errorf("Take of %s throws", what)
	}
}

func refused(t *testing.T, what string, b []byte, glyphs int) {
	t.Helper()
	if x, e := stack.Read(b, glyphs); x != nil || e != api.ErrForm {
		t.Errorf("Read of %s: %v, %v", what, x, e)
	}
	if view.Try(func() { stack.Take(view.Of(b), glyphs) }) {
		t.Errorf("Take of %s doesn't throw", what)
	}
}

func TestConstants(t *testing.T) {
	if stack.Push != push || stack.Reset != reset || stack.None != none || stack.Depth != 8 || stack.Level != -0x8000 {
		t.Error("constants", stack.Push, stack.Reset, stack.None, stack.Depth, stack.Level)
	}
}

// P23.1

// pair: the document's example: two glyphs are pushed, and moved at the second one.
func pair() ([][]int, []api.Entry, []int) {
	states, entries := steps(keep, is(push, 0), nothing)
	return states, entries, []int{-20, 31}
}

// plain: the document's example, whose values stand behind all.
func plain() []byte {
	states, entries, values := pair()
	return laid(states, entries, values...)
}

// Each byte up to the last value's last one is needed, and none behind.
func TestReadOfPieces(t *testing.T) {
	b := plain()
	taken(t, "all bytes", b, fits)
	for n := range len(b) {
		refused(t, "less than all bytes", b[:n], fits)
	}
	for _, more := range [][]byte{{0}, {0xFF, 0xFF}, make([]byte, 100)} {
		taken(t, "more bytes", slices.Concat(b, more), fits)
	}
}

func TestReadOfNoMachine(t *testing.T) {
	states, entries, values := pair()
	_, at := machine(states, entries)
	for _, c := range []struct {
		what    string
		at, num int
	}{
		{"too few classes", 2, 3}, {"too many classes", 0, 1}, {"a machine's lookup behind the bytes", 6, 0x7FFF}, {"a machine without a lookup", at[0], 3},
		{"states behind the bytes", 10, 0x7FFF}, {"entries behind the bytes", 14, 0x7FFF}, {"an entry that isn't there", at[1], 0x7FFF}, {"a state that isn't there", at[2], 0x7FFF},
	} {
		b := laid(states, entries, values...)
		taken(t, "a subtable that is one", b, fits)
		binary.BigEndian.PutUint16(b[c.at:], uint16(c.num))
		refused(t, c.what, b, fits)
	}
}

// The values' place is one within the bytes, or at their end, also where nobody asks for what stands there.
func TestPlaces(t *testing.T) {
	states, entries := steps(keep, is(reset, none))
	b, _ := machine(states, entries)
	for _, at := range []int{0, 1, head - 1, len(b) - 3, len(b) - 1, len(b)} {
		binary.BigEndian.PutUint32(b[16:], uint32(at))
		taken(t, "values within", b, fits)
	}
	for _, at := range []int{len(b) + 1, len(b) + 2, 1 << 16, 1 << 31, 1<<32 - 1} {
		binary.BigEndian.PutUint32(b[16:], uint32(at))
		refused(t, "values behind the bytes", b, fits)
	}
}

// The shortest of all: its entries, its values, its states and its lookup stand upon its own beginning.
func TestShortest(t *testing.T) {
	b := longs(4, 13, 12, 0, 0, 0, 0) // the place 13 is an odd value
	taken(t, "the shortest", b, 1)
	refused(t, "the shortest without an odd value", longs(4, 14, 12, 0, 0, 0, 0), 1)
	for n := range b {
		refused(t, "less than the shortest", b[:n], 1)
	}
}

// Which values are asked for hangs on an entry's word alone; they go on up to one that is odd.
func TestWhichValues(t *testing.T) {
	for _, c := range []struct {
		what   string
		good   bool
		values []int
		l      []api.Entry
	}{
		{"no values", true, nil, []api.Entry{keep, nothing, is(0xFFFF&^stay, none)}},
		{"none is there", false, nil, []api.Entry{is(0, 0)}},
		{"one", true, []int{1}, []api.Entry{is(0, 0)}},
		{"one that isn't odd", false, []int{2}, []api.Entry{is(0, 0)}},
		{"one of all bits but the lowest", false, []int{0xFFFE}, []api.Entry{is(push, 0)}},
		{"one of all bits", true, []int{0xFFFF}, []api.Entry{is(push, 0)}},
		{"one that levels, and isn't odd", false, []int{stack.Level}, []api.Entry{is(push, 0)}},
		{"one that levels, and is odd", true, []int{stack.Level | 1}, []api.Entry{is(push, 0)}},
		{"several", true, []int{0, 0, 256, 6, 5}, []api.Entry{is(0, 0)}},
		{"several, and no odd one", false, []int{0, 0, 256, 6, 4}, []api.Entry{is(0, 0)}},
		{"more than are ever kept", true, append(make([]int, 50), 1), []api.Entry{is(0, 0)}},
		{"more than are ever kept, and no odd one", false, make([]int, 50), []api.Entry{is(0, 0)}},
		{"one behind others", true, []int{0, 0, 0, 1}, []api.Entry{is(0, 3)}},
		{"one behind the odd one", false, []int{0, 0, 0, 1}, []api.Entry{is(0, 4)}},
		{"one behind the odd one, of all other flags", false, []int{0, 0, 0, 1}, []api.Entry{is(0, 0), is(0xFFFF, 4)}},
		{"none of which the first one is odd", true, []int{1, 0}, []api.Entry{is(0, 0)}},
		{"one behind the odd one, without an odd one itself", false, []int{1, 0}, []api.Entry{is(0, 0), is(0, 1)}},
		{"two rows", true, []int{0, 1, 0, 1}, []api.Entry{is(0, 0), is(0, 2)}},
		{"two rows, the other way round", true, []int{0, 1, 0, 1}, []api.Entry{is(0, 2), is(0, 0)}},
		{"two rows, the second one without an odd one", false, []int{0, 1, 0, 0}, []api.Entry{is(0, 2), is(0, 0)}},
		{"two rows, the second one without an odd one, the other way round", false, []int{0, 1, 0, 0}, []api.Entry{is(0, 0), is(0, 2)}},
		{"a row within a row", true, []int{0, 0, 0, 1}, []api.Entry{is(0, 2), is(0, 0), is(0, 3), is(0, 1)}},
		{"a row within a row, and one behind", false, []int{0, 0, 0, 1}, []api.Entry{is(0, 2), is(0, 0), is(0, 4)}},
		{"a great number", false, []int{0, 0, 0, 1}, []api.Entry{is(0, 0xFFFE)}},
		{"the greatest number", true, append(make([]int, 0xFFFE), 1), []api.Entry{is(0, 0xFFFE)}},
		{"a row beyond the greatest number", true, append(make([]int, 70000), 1), []api.Entry{is(0, 0xFFFE)}},
		{"a row beyond the greatest number, and no odd one", false, make([]int, 70000), []api.Entry{is(0, 0xFFFE)}},
	} {
		states, entries := steps(c.l...)
		b := laid(states, entries, c.values...)
		for _, more := range [][]byte{nil, {0xFF}} { // one byte is no value
			if all := slices.Concat(b, more); c.good {
				taken(t, c.what, all, fits)
			} else {
				refused(t, c.what, all, fits)
			}
		}
	}
}

// An entry to which no state leads counts, if there is one behind it; behind the last one that there is nothing counts.
func TestEntriesThatCount(t *testing.T) {
	states := [][]int{slices.Repeat([]int{0}, classes), slices.Repeat([]int{2}, classes)}
	entries := []api.Entry{{A: none}, {A: 1}, {A: none}}
	taken(t, "two values", laid(states, entries, 0, 1), fits)
	refused(t, "one value", laid(states, entries, 1), fits)
	entries = []api.Entry{{A: none}, {A: none}, {A: none}, {A: 1}}
	taken(t, "an entry behind all", laid(states, entries, 0), fits)
}

// Many entries that all ask for one long row of values are looked at in no time.
func TestManyEntriesOfOneRow(t *testing.T) {
	const n, row = 65535, 1 << 22
	states := [][]int{slices.Repeat([]int{0}, classes), slices.Repeat([]int{n - 1}, classes)}
	entries := make([]api.Entry, n)
	for i := range entries {
		entries[i] = is(0, n-1-i)
	}
	b := laid(states, entries, append(make([]int, row), 1)...)
	taken(t, "many entries", b, fits)
	refused(t, "many entries, and no odd value", b[:len(b)-1], fits)
}

// The values may stand anywhere, at an odd place, too, and upon the machine.
func TestPlacesOfValues(t *testing.T) {
	states, entries, values := pair()
	_, at := machine(states, entries)
	whole := laid(states, entries, values...)
	for n := range 5 {
		more := slices.Concat(make([]byte, n), words(values...), slices.Repeat([]byte{0xFE}, n))
		b := slices.Concat(whole[:head], more, whole[head:])
		for i, place := range at {
			binary.BigEndian.PutUint32(b[4+4*i:], uint32(place+len(more)))
		}
		binary.BigEndian.PutUint32(b[16:], uint32(head+n))
		moves(t, "values with bytes between", table(t, b), -20, 30)
	}
	// the values are the machine's glyphs: a lookup of the format 8, from 3 on
	b := slices.Clone(whole)
	binary.BigEndian.PutUint32(b[16:], head)
	moves(t, "values that are a lookup", table(t, b), 8, 2)
}

// moves: of two glyphs the last one is moved first.
func moves(t *testing.T, what string, x *stack.Table, second, first int) {
	t.Helper()
	p := place.New(api.Right, 500, 500)
	if e := x.Run(line.New(5, 6), p, false); e != api.OK || !slices.Equal(p.All(), advances(500+first, 500+second)) {
		t.Errorf("%s: %v, %v", what, p.All(), e)
	}
}

// A lookup of a number for each glyph has as many as the font has glyphs.
func TestGlyphsOfTheFont(t *testing.T) {
	b := plain()
	binary.BigEndian.PutUint32(b[4:], uint32(len(b)))
	b = append(b, words(0, 1, 2, 3, 4, 5)...)
	for glyphs := 1; glyphs < 9; glyphs++ {
		if glyphs <= 5 {
			taken(t, "a lookup of five glyphs", b, glyphs)
		} else {
			refused(t, "a lookup of five glyphs", b, glyphs)
		}
	}
}

// P23.2

func TestReadOfWrongArguments(t *testing.T) {
	for _, glyphs := range []int{0, -1, -65535, 65536, 1<<32 + 1, math.MinInt, math.MaxInt} {
		for _, b := range [][]byte{plain(), nil, {1}} {
			if x, e := stack.Read(b, glyphs); x != nil || e != api.ErrArg {
				t.Errorf("Read of %d bytes, %d glyphs: %v, %v", len(b), glyphs, x, e)
			}
		}
	}
	for _, glyphs := range []int{1, 2, fits, 65534, 65535} {
		taken(t, "a number of glyphs that may be", plain(), glyphs)
		refused(t, "no bytes", nil, glyphs)
	}
}

func TestTake(t *testing.T) {
	v := view.Of(slices.Concat([]byte{1, 2, 3}, plain(), []byte{4}))
	var x *stack.Table
	if !view.Try(func() { x = stack.Take(v.Rest(3), fits) }) || x == nil {
		t.Fatal("Take throws")
	}
	moves(t, "Take", x, -20, 30)
	if view.Try(func() { stack.Take(v, fits) }) || view.Try(func() { stack.Take(view.View{}, fits) }) || view.Try(func() { stack.Take(v.Cut(3, len(plain())-1), fits) }) {
		t.Error("Take of no subtable doesn't throw")
	}
}

// P2: the font's bytes aren't changed, and Read doesn't keep them.
func TestBytesAreNotKept(t *testing.T) {
	b := append(plain(), 1, 2, 3)[:len(plain())]
	was := bytes.Clone(b[:cap(b)])
	x := table(t, b)
	moves(t, "Read", x, -20, 30)
	moves(t, "Take", stack.Take(view.Of(b), fits), -20, 30)
	if !bytes.Equal(b[:cap(b)], was) {
		t.Errorf("the bytes were changed: %x", b)
	}
	for _, n := range []byte{0, 0xFF} {
		for i := range b {
			b[i] = n
		}
		moves(t, "Run behind a change of the bytes", x, -20, 30)
	}
}

// P23.3

func TestExample(t *testing.T) {
	moves(t, "the document's example", table(t, plain()), -20, 30)
}

func TestAlong(t *testing.T) {
	along(t, "all kept, none moved", []int{0, 0, 0}, nil, keep)
	along(t, "none kept", []int{0, 0, 0}, []int{10, 21}, is(0, 0))
	along(t, "each by itself", []int{10, 10, 10}, []int{11}, is(push, 0))
	along(t, "the second one", []int{0, 10, 0}, []int{11}, nothing, is(push, 0), nothing)
	along(t, "the first one, at the second one", []int{10, 0, 0}, []int{11}, keep, is(0, 0), nothing)
	along(t, "the last one, at the line's end", []int{0, 0, 10}, []int{11}, nothing, nothing, keep, is(0, 0))
	along(t, "all, the last one first", []int{30, 20, 10}, []int{10, 20, 31}, keep, keep, is(push, 0), nothing)
	along(t, "up to the odd one", []int{0, 20, 10}, []int{10, 21, 31}, keep, keep, is(push, 0), nothing)
	along(t, "the odd one alone", []int{0, 0, 10}, []int{11, 21, 31}, keep, keep, is(push, 0), nothing)
	along(t, "more values than places", []int{0, 20, 10}, []int{10, 20, 30, 41}, nothing, keep, is(push, 0), nothing)
	along(t, "values from one on", []int{0, 40, 30}, []int{10, 21, 30, 41}, keep, keep, is(push, 2), nothing)
	along(t, "values of nought", []int{0, 0, 10}, []int{10, 0, 1}, keep, keep, is(push, 0), nothing)
	along(t, "apart", []int{20, 0, 10}, []int{10, 21}, keep, nothing, is(push, 0), nothing)
	along(t, "those that are left", []int{10, 10, 10, 0}, []int{11}, keep, keep, is(push, 0), is(0, 0))
	along(t, "those that are left at the same place", []int{10, 10, 10}, []int{11}, keep, keep, is(push, 0), is(stay, 0), is(0, 0))
	along(t, "those that are left at the line's end", []int{20, 20, 10}, []int{11, 20, 21}, keep, keep, is(push, 0), is(0, 1), nothing)
	along(t, "none left", []int{0, 0, 10}, []int{10, 20, 31}, nothing, nothing, is(push, 0), is(0, 0))
	along(t, "other flags", []int{0, 20, 10}, []int{10, 21}, keep, is(0x9FFF, none), is(0x9FFF, 0), is(0x1FFF, none))
	along(t, "no glyphs", nil, []int{11}, is(push, 0))
	ran(t, "across isn't asked for", false, []api.Place{{Advance: -0x8000}, {Advance: -0x8000}}, []int{stack.Level, stack.Level | 1}, keep, is(push, 0), nothing)
}

// A value's lowest bit doesn't count among what it moves by.
func TestValues(t *testing.T) {
	for _, c := range []struct{ value, far int }{
		{1, 0}, {3, 2}, {-1, -2}, {-3, -4}, {31, 30}, {-31, -32}, {0x7FFF, 0x7FFE}, {-0x7FFF, -0x8000}, {-0x7FFD, -0x7FFE}, {0x8001, -0x8000}, {0xFFFF, -2},
	} {
		along(t, "an odd value", []int{0, c.far}, []int{c.value, 101}, keep, is(push, 0), nothing)
		if c.far == stack.Level {
			continue
		}
		across(t, "an odd value", []int{0, c.far}, []int{c.value, 101}, keep, is(push, 0), nothing)
	}
	for _, n := range []int{0, 2, -2, 30, -32, 0x7FFE, -0x7FFE} {
		along(t, "a value that isn't odd", []int{100, n}, []int{n, 101}, keep, is(push, 0), nothing)
		across(t, "a value that isn't odd", []int{100, n}, []int{n, 101}, keep, is(push, 0), nothing)
	}
}

// The greatest number of a value is one below that which says that there is none.
func TestGreatestNumber(t *testing.T) {
	values := append(make([]int, 0xFFFE), 10, 21)
	along(t, "the greatest number", []int{20, 10}, values, keep, is(push, 0xFFFE), nothing)
	along(t, "none", []int{0, 0}, values, keep, keep, nothing)
}

func TestAcross(t *testing.T) {
	across(t, "all, the last one first", []int{30, 20, 10}, []int{10, 20, 31}, keep, keep, is(push, 0), nothing)
	across(t, "a glyph that is moved twice", []int{0, 30, 0}, []int{10, 1, 21}, nothing, is(push|stay, 0), is(push|stay, 2), nothing)
	across(t, "a glyph that is levelled", []int{0, 0, 0}, []int{11, stack.Level | 1}, nothing, is(push|stay, 0), is(push, 1), nothing)
	across(t, "a glyph that is levelled, and then moved", []int{0, 20, 0}, []int{11, stack.Level | 1, 21}, nothing, is(push|stay, 0), is(push|stay, 1), is(push, 2), nothing)
	across(t, "one that is levelled of several", []int{30, 0, 0}, []int{11, stack.Level, 21}, is(push|stay, 0), keep, is(push|stay, 0), is(push, 1), nothing)
}

// What stands off across the line is up, or, where the line goes down, to the right; levelled is that alone.
func TestDirections(t *testing.T) {
	states, entries := steps(keep, keep, is(push, 0), nothing)
	x := table(t, laid(states, entries, 10, stack.Level, 21))
	for _, direction := range []int{api.Right, api.Left, api.Down, 3, -1} {
		p := place.New(direction, 500, 600, 700)
		for i := range 3 {
			p.Shift(i, 7, 9)
		}
		want := []api.Place{{Advance: 500, X: 7, Y: 29}, {Advance: 600, X: 7}, {Advance: 700, X: 7, Y: 19}}
		if direction == api.Down {
			want = []api.Place{{Advance: 500, X: 27, Y: 9}, {Advance: 600, Y: 9}, {Advance: 700, X: 17, Y: 9}}
		}
		if e := x.Run(line.New(5, 6, 7), p, true); e != api.OK || !slices.Equal(p.All(), want) {
			t.Errorf("across, of the direction %d: %v, %v, not %v", direction, p.All(), e, want)
		}
		want[0].Advance, want[1].Advance, want[2].Advance = 520, 600-0x8000, 710
		if e := x.Run(line.New(5, 6, 7), p, false); e != api.OK || !slices.Equal(p.All(), want) {
			t.Errorf("along, of the direction %d: %v, %v, not %v", direction, p.All(), e, want)
		}
	}
}

// Nothing is moved beyond 32 bits.
func TestEdges(t *testing.T) {
	states, entries := steps(keep, is(push, 0), nothing)
	x := table(t, laid(states, entries, 0x7FFE, -0x7FFD))
	p := place.New(api.Right, math.MinInt32, math.MaxInt32)
	p.Shift(0, 0, math.MinInt32+5)
	p.Shift(1, 0, math.MaxInt32-5)
	x.Run(line.New(5, 6), p, false)
	if e := x.Run(line.New(5, 6), p, true); e != api.OK || !slices.Equal(p.All(), []api.Place{{Advance: math.MinInt32, Y: math.MinInt32}, {Advance: math.MaxInt32, Y: math.MaxInt32}}) {
		t.Error("edges", p.All(), e)
	}
}

func TestPush(t *testing.T) {
	along(t, "the line's end isn't kept", []int{10}, []int{11, 21}, keep, is(push, 0))
	along(t, "the line's end isn't kept, where none is", []int{0}, []int{11}, nothing, is(push, 0))
	along(t, "one place twice", []int{0, 30}, []int{10, 21}, nothing, is(push|stay, none), is(push, 0), nothing)
	along(t, "one place three times, another one between", []int{20, 120, 0}, []int{10, 110, 21}, keep, is(push|stay, none), is(push, 0), nothing)
	along(t, "kept ahead of the moves", []int{0, 10}, []int{11}, nothing, is(push, 0), nothing)
	along(t, "kept again behind the moves", []int{0, 20}, []int{11}, nothing, is(push|stay, 0), is(push|stay, 0), nothing)
	// a deleted glyph, and one of the class of the line's end, are glyphs' places
	b := line.New(gone, ended, -1, 1<<20)
	states, entries := steps(keep, keep, keep, is(push, 0), nothing)
	p := place.New(api.Right, 0, 0, 0, 0)
	if e := table(t, laid(states, entries, 2, 4, 6, 9)).Run(b, p, false); e != api.OK || !slices.Equal(p.All(), advances(8, 6, 4, 2)) {
		t.Error("glyphs that are none of the font's", p.All(), e)
	}
}

func TestReset(t *testing.T) {
	along(t, "none kept any more", []int{0, 0, 0}, []int{10, 21}, keep, is(reset, 0), nothing)
	along(t, "none kept any more, from a step ahead", []int{0, 0, 10}, []int{10, 21}, keep, is(reset, none), is(push, 0), nothing)
	along(t, "one kept behind a reset", []int{0, 0, 10}, []int{10, 21}, keep, keep, is(push|reset, 0), nothing)
	along(t, "two kept behind a reset", []int{0, 20, 10}, []int{10, 21}, keep, is(push|reset, none), is(push, 0), nothing)
	along(t, "a reset at the line's end", []int{0, 0, 0}, []int{10, 21}, keep, keep, keep, is(push|reset, 0))
	along(t, "a reset where none is kept", []int{10, 0, 0}, []int{10, 21}, is(push|reset, 0), nothing)
}

// Of more than eight places that are kept the first ones aren't any more.
func TestDepth(t *testing.T) {
	for _, n := range []int{0, 1, 7, 8, 9, 10, 15, 16, 17, 30} {
		var want, values []int
		for i := range n {
			far := 0
			if i >= n-8 {
				far = 2 * (n - i)
			}
			want = append(want, far)
		}
		for i := range 40 {
			values = append(values, 2*i+2)
		}
		l := append(slices.Repeat([]api.Entry{keep}, n), is(0, 0))
		along(t, "many places", want, append(values, 1), l...)
		across(t, "many places", want, append(values, 1), l...)
	}
	// one place many times
	for _, n := range []int{1, 7, 8, 9, 60} {
		l := append(slices.Repeat([]api.Entry{is(push|stay, none)}, n-1), is(push, none), is(0, 0))
		along(t, "one place many times", []int{10 * min(n, 8)}, append(slices.Repeat([]int{10}, 20), 11), l...)
	}
	// of seven more the first one is moved last; of eight more it isn't any more
	for n, want := range map[int][]int{6: {100, 72, 0}, 7: {100, 84, 0}, 8: {0, 96, 0}, 9: {0, 96, 0}} {
		l := append(slices.Repeat([]api.Entry{is(push|stay, none)}, n), is(0, 0), nothing)
		values := append(slices.Repeat([]int{12}, min(n, 8)), 101)
		along(t, "the first one, and many others", want, values, append([]api.Entry{keep}, l...)...)
	}
}

// A machine's classes choose its entries.
func TestClasses(t *testing.T) {
	// the classes 4 and 5 are kept, 5 moves; 6 moves what is left, 7 resets
	row := []int{0, 0, 4, 0, 1, 2, 3, 4}
	entries := []api.Entry{nothing, keep, is(push, 0), is(0, 1), is(reset, none)}
	x := table(t, laid([][]int{row, row}, entries, 10, 21))
	for _, c := range []struct{ ids, want []int }{
		{[]int{4, 5}, []int{20, 10}}, {[]int{4, 8, 5}, []int{20, 0, 10}}, {[]int{5, 4}, []int{10, 0}}, {[]int{4, 4, 5, 6}, []int{20, 20, 10, 0}},
		{[]int{4, 7, 5}, []int{0, 0, 10}}, {[]int{4, gone, 6}, []int{0, 0, 0}}, {[]int{4, ended, 6}, []int{20, 0, 0}}, {[]int{4, 6, 6}, []int{20, 0, 0}}, {nil, nil},
	} {
		p := place.New(api.Left, make([]int, len(c.ids))...)
		if e := x.Run(line.New(c.ids...), p, false); e != api.OK || !slices.Equal(p.All(), advances(c.want...)) {
			t.Errorf("classes of %v: %v, %v, not %v", c.ids, p.All(), e, c.want)
		}
	}
}

// A run begins without places that are kept, whatever the one ahead of it kept.
func TestRunAgain(t *testing.T) {
	states, entries := steps(is(0, 0), keep, nothing)
	x := table(t, laid(states, entries, 11))
	for range 3 {
		p := place.New(api.Right, 0, 0)
		if e := x.Run(line.New(4, 5), p, false); e != api.OK || !slices.Equal(p.All(), advances(0, 0)) {
			t.Error("a run again", p.All(), e)
		}
	}
	var zero line.Line
	if e := x.Run(&zero, place.New(api.Right), true); e != api.OK || zero.Len() != 0 {
		t.Error("the zero Line", zero.Glyphs(), e)
	}
}

// What was done ahead of the machine's error stays done.
func TestBudget(t *testing.T) {
	rest := is(push|stay, none)
	for _, c := range []struct {
		what string
		want []int
		l    []api.Entry
	}{
		{"rests without an end", []int{20, 10, 0}, []api.Entry{keep, is(push, 0), rest}},
		{"rests without an end at the beginning", []int{0, 0, 0}, []api.Entry{rest}},
		{"rests, and a move as the last one", []int{0, 30, 0}, slices.Concat([]api.Entry{keep}, slices.Repeat([]api.Entry{rest}, 64), []api.Entry{is(stay, 0), rest})},
		{"rests, and a move behind the last one", []int{0, 0, 0}, slices.Concat([]api.Entry{keep}, slices.Repeat([]api.Entry{rest}, 65), []api.Entry{is(stay, 0)})},
	} {
		states, entries := steps(c.l...)
		x := table(t, laid(states, entries, 10, 21))
		p := place.New(api.Right, 0, 0, 0)
		if e := x.Run(line.New(4, 5, 6), p, false); e != api.ErrBudget || !slices.Equal(p.All(), advances(c.want...)) {
			t.Errorf("%s: %v, %v, not %v", c.what, p.All(), e, c.want)
		}
	}
}

func TestLongLine(t *testing.T) {
	const n = 65536
	row := []int{0, 0, 0, 0, 1, 2, 0, 0}
	b := line.New(slices.Repeat([]int{4, 5}, n/2)...)
	p := place.New(api.Right, make([]int, n)...)
	if e := table(t, laid([][]int{row, row}, []api.Entry{nothing, keep, is(push, 0)}, 10, 21)).Run(b, p, false); e != api.OK {
		t.Fatal("a long line", e)
	}
	for i, g := range p.All() {
		if want := (api.Place{Advance: []int32{20, 10}[i%2]}); g != want {
			t.Fatalf("a long line: the place %d is %v, not %v", i, g, want)
		}
	}
}

// P1: fewer, or more, places than glyphs: it ends.
func TestOtherPlaces(t *testing.T) {
	x := table(t, plain())
	for n := range 5 {
		for _, cross := range []bool{false, true} {
			x.Run(line.New(5, 6, 5), place.New(api.Down, make([]int, n)...), cross)
		}
	}
}

// modelled: what a model of a run has.
type modelled struct {
	states  [][]int
	entries []api.Entry
	values  []int // all up to the bytes' end
	ids     []int
	places  []api.Place
	cross   bool
	down    bool
}

func clamped(n int) int32 { return int32(max(math.MinInt32, min(math.MaxInt32, n))) }

// run: a run, word by word as the document says, of glyphs that have their own classes.
func (m *modelled) run() api.Errno {
	var kept []int
	now, at, rests := 0, 0, 0
	for range 2*len(m.ids) + 128 {
		class, end := 0, at >= len(m.ids)
		if !end && m.ids[at] != ended {
			class = 1
			if id := m.ids[at]; id == gone {
				class = 2
			} else if 4 <= id && id < classes {
				class = id
			}
		}
		e := m.entries[m.states[now][class]]
		if e.Flags>>13&1 == 1 {
			kept = nil
		}
		if e.Flags>>15&1 == 1 && !end {
			kept = append(kept, at)
			if len(kept) > 8 {
				kept = kept[1:]
			}
		}
		if e.A != 0xFFFF {
			kept = m.move(kept, m.values[e.A:])
		}
		now = e.Next
		switch {
		case e.Flags>>14&1 == 0 && end:
			return api.OK
		case e.Flags>>14&1 == 0:
			at, rests = at+1, 0
		case rests == 64:
			return api.ErrBudget
		default:
			rests++
		}
	}
	return api.ErrBudget
}

func (m *modelled) move(kept, values []int) []int {
	for _, value := range values {
		n := len(kept)
		if n == 0 {
			return nil
		}
		p := &m.places[kept[n-1]]
		kept = kept[:n-1]
		odd := value%2 != 0
		v := value
		if odd {
			v--
		}
		off := &p.Y
		if m.down {
			off = &p.X
		}
		switch {
		case !m.cross:
			p.Advance = clamped(int(p.Advance) + v)
		case v == -0x8000:
			*off = 0
		default:
			*off = clamped(int(*off) + v)
		}
		if odd {
			return kept
		}
	}
	return kept
}

// somePlace: a number, often at the edges of 32 bits.
func somePlace(r *rand.Rand) int {
	return []int{0, r.Intn(1000) - 500, math.MaxInt32 - r.Intn(9000), math.MinInt32 + r.Intn(9000)}[r.Intn(4)]
}

// some: a subtable's bytes, and a model of what it has.
func some(r *rand.Rand) ([]byte, *modelled) {
	m := &modelled{cross: r.Intn(2) == 0, down: r.Intn(3) == 0}
	states, n := 2+r.Intn(3), 1+r.Intn(6)
	for range 2 + r.Intn(20) {
		m.values = append(m.values, []int{r.Intn(200) - 100, r.Intn(1<<16) - 1<<15, stack.Level, stack.Level | 1}[r.Intn(4)])
	}
	m.values[len(m.values)-1] |= 1
	for range states {
		row := make([]int, classes)
		for i := range row {
			row[i] = r.Intn(n)
		}
		m.states = append(m.states, row)
	}
	for i := range n {
		flags := []int{push, push, push, 0, reset, push | reset, push | stay, stay, 0x1FFF}[r.Intn(9)]
		a := []int{none, r.Intn(len(m.values))}[r.Intn(2)]
		m.entries = append(m.entries, api.Entry{Next: r.Intn(states), Flags: flags, A: a})
		m.states[i%states][r.Intn(classes)] = i // some of them lead to each
	}
	m.entries[0].Next = states - 1
	for _, row := range m.states {
		row[1] = 0
	}
	m.states[0][0] = n - 1 // all are there
	return laid(m.states, m.entries, m.values...), m
}

func TestAnyRuns(t *testing.T) {
	r := rand.New(rand.NewSource(23))
	bad := 0
	for range 20000 {
		b, m := some(r)
		for range r.Intn(30) {
			m.ids = append(m.ids, []int{0, ended, 4, 5, 6, 7, 8, gone, -5, 1 << 40}[r.Intn(10)])
		}
		direction := r.Intn(2)
		if m.down {
			direction = api.Down
		}
		far := make([]int, len(m.ids))
		for i := range far {
			far[i] = somePlace(r)
		}
		p := place.New(direction, far...)
		for i := range far {
			p.Shift(i, somePlace(r), somePlace(r))
		}
		m.places = p.All()
		l := line.New(m.ids...)
		was := l.Glyphs()
		x := table(t, b)
		want := m.run()
		if e := x.Run(l, p, m.cross); e != want || !slices.Equal(p.All(), m.places) || !slices.Equal(l.Glyphs(), was) {
			t.Fatalf("%x, of %v: %v, %v, not %v, %v", b, m.ids, p.All(), e, m.places, want)
		}
		if want != api.OK {
			bad++
		}
	}
	if bad < 500 || bad > 15000 {
		t.Error("runs beyond the budget:", bad)
	}
}

// P1: whatever bytes there are, Read ends, and so does each call of what it answers.
func TestAnyBytes(t *testing.T) {
	r := rand.New(rand.NewSource(123))
	read, not := 0, 0
	for range 50000 {
		b, _ := some(r)
		for range 1 + r.Intn(3) {
			b[r.Intn(len(b))] = byte([]int{r.Intn(256), r.Intn(9), 0, 0xFF}[r.Intn(4)])
		}
		x, e := stack.Read(b, 1+r.Intn(12))
		if (x == nil) != (e != api.OK) || e != api.OK && e != api.ErrForm {
			t.Fatalf("Read of %x: %v, %v", b, x, e)
		}
		if e != api.OK {
			not++
			continue
		}
		read++
		ids := make([]int, r.Intn(20))
		for i := range ids {
			ids[i] = r.Intn(12)
		}
		p := place.New(r.Intn(3), ids...)
		if e := x.Run(line.New(ids...), p, r.Intn(2) == 0); e != api.OK && e != api.ErrBudget || p.Len() != len(ids) {
			t.Fatalf("Run of %x: %v", b, e)
		}
	}
	if read < 3000 || not < 3000 {
		t.Error("too few subtables were read, or refused", read, not)
	}
}
