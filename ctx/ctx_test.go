package ctx_test

import (
	"bytes"
	"encoding/binary"
	"math"
	"math/rand"
	"slices"
	"testing"

	"swash/api"
	"swash/ctx"
	"swash/line"
	"swash/view"
)

const (
	mark    = 0x8000
	stay    = 0x4000
	none    = 0xFFFF
	classes = 8 // of the glyphs 4 to 7, which have these as classes
	fits    = 9 // glyphs of the tests' font
	ended   = 3 // a glyph that has the class of the line's end, 0
)

// words, longs: each one's two, or four, bytes.
func words(l ...int) []byte {
	var b []byte
	for _, n := range l {
		b = binary.BigEndian.AppendUint16(b, uint16(n))
	}
	return b
}

func longs(l ...int) []byte {
	var b []byte
	for _, n := range l {
		b = binary.BigEndian.AppendUint32(b, uint32(n))
	}
	return b
}

// gives: a lookup that gives glyphs from one on others.
func gives(first int, ids ...int) []byte { return words(append([]int{8, first, len(ids)}, ids...)...) }

// machine: a machine's bytes, and where its lookup, its states and its entries stand in them.
func machine(states [][]int, entries []api.Entry) (b []byte, at [3]int) {
	of := gives(ended, 0, 4, 5, 6, 7)
	at[0] = 20
	at[1] = at[0] + len(of)
	at[2] = at[1] + 2*classes*len(states)
	b = slices.Concat(longs(classes, at[0], at[1], at[2], 0), of)
	for _, s := range states {
		b = append(b, words(s...)...)
	}
	for _, e := range entries {
		b = append(b, words(e.Next, e.Flags, e.A, e.B)...)
	}
	return b, at
}

// laid: a subtable's bytes: the machine, behind it the list, behind it the lookups.
func laid(states [][]int, entries []api.Entry, lookups ...[]byte) []byte {
	b, _ := machine(states, entries)
	binary.BigEndian.PutUint32(b[16:], uint32(len(b)))
	at := 4 * len(lookups)
	for _, l := range lookups {
		b = append(b, longs(at)...)
		at += len(l)
	}
	return append(b, slices.Concat(lookups...)...)
}

// steps: a machine that does an entry for each of its steps, whatever the glyphs; the last one again for all behind.
func steps(entries ...api.Entry) ([][]int, []api.Entry) {
	var states [][]int
	out := slices.Clone(entries)
	for i := range out {
		states = append(states, slices.Repeat([]int{i}, classes))
		out[i].Next = min(i+1, len(out)-1)
	}
	if len(states) < 2 {
		states = append(states, make([]int, classes))
	}
	return states, out
}

// is: an entry of flags, and of the numbers of the lookups for the mark, and for the place.
func is(flags, a, b int) api.Entry { return api.Entry{Flags: flags, A: a, B: b} }

// table: the subtable that bytes begin with.
func table(t *testing.T, b []byte) *ctx.Table {
	t.Helper()
	x, e := ctx.Read(b, fits)
	if e != api.OK || x == nil {
		t.Fatal("a test's subtable:", e)
	}
	return x
}

func idsOf(b *line.Line) []int {
	var l []int
	for _, g := range b.Glyphs() {
		l = append(l, g.ID)
	}
	return l
}

// ran: of some glyphs, steps of some entries, and some lookups, others come.
func ran(t *testing.T, what string, ids, want []int, lookups [][]byte, entries ...api.Entry) {
	t.Helper()
	states, all := steps(entries...)
	b := line.New(ids...)
	if e := table(t, laid(states, all, lookups...)).Run(b); e != api.OK || !slices.Equal(idsOf(b), want) {
		t.Errorf("%s: %v, %v, not %v", what, idsOf(b), e, want)
	}
}

func taken(t *testing.T, what string, b []byte, glyphs int) {
	t.Helper()
	if x, e := ctx.Read(b, glyphs); x == nil || e != api.OK {
		t.Errorf("Read of %s: %v, %v", what, x, e)
	}
	var x *ctx.Table
	if !view.Try(func() { x = ctx.Take(view.Of(b), glyphs) }) || x == nil {
		t.Errorf("Take of %s throws", what)
	}
}

func refused(t *testing.T, what string, b []byte, glyphs int) {
	t.Helper()
	if x, e := ctx.Read(b, glyphs); x != nil || e != api.ErrForm {
		t.Errorf("Read of %s: %v, %v", what, x, e)
	}
	if view.Try(func() { ctx.Take(view.Of(b), glyphs) }) {
		t.Errorf("Take of %s doesn't throw", what)
	}
}

func TestConstants(t *testing.T) {
	if ctx.Mark != 0x8000 || ctx.None != 0xFFFF {
		t.Error("constants", ctx.Mark, ctx.None)
	}
}

// P15.1

// plain: a subtable of two lookups.
func plain() []byte {
	states, entries := steps(is(mark, none, 1), is(0, 0, none), is(0, none, none))
	return laid(states, entries, gives(4, 8, 9), gives(6, 7))
}

// Each byte up to the last lookup's last one is needed, and none behind.
func TestReadOfPieces(t *testing.T) {
	b := plain()
	taken(t, "all bytes", b, fits)
	for n := range len(b) {
		refused(t, "less than all bytes", b[:n], fits)
	}
	for _, more := range [][]byte{{0}, {0xFF, 0xFF}, make([]byte, 100)} {
		taken(t, "more bytes", slices.Concat(b, more), fits)
	}
}

func TestReadOfNoMachine(t *testing.T) {
	states, entries := steps(is(mark, none, 1), is(0, 0, none))
	_, at := machine(states, entries)
	for _, c := range []struct {
		what    string
		at, num int
	}{
		{"too few classes", 2, 3}, {"too many classes", 0, 1}, {"a machine's lookup behind the bytes", 6, 0x7FFF}, {"a machine without a lookup", at[0], 3},
		{"states behind the bytes", 10, 0x7FFF}, {"entries behind the bytes", 14, 0x7FFF}, {"an entry that isn't there", at[1], 0x7FFF}, {"a state that isn't there", at[2], 0x7FFF},
	} {
		b := laid(states, entries, gives(4, 8, 9), gives(6, 7))
		taken(t, "a subtable that is one", b, fits)
		binary.BigEndian.PutUint16(b[c.at:], uint16(c.num))
		refused(t, c.what, b, fits)
	}
}

// Where no entry has a number there are no lookups; the list is a place within the bytes all the same, or their end.
func TestListOfNone(t *testing.T) {
	states, entries := steps(is(mark, none, none), is(mark, none, none))
	b, _ := machine(states, entries)
	for _, at := range []int{0, 1, 19, len(b) - 3, len(b) - 1, len(b)} {
		binary.BigEndian.PutUint32(b[16:], uint32(at))
		taken(t, "a list of none", b, fits)
	}
	for _, at := range []int{len(b) + 1, 1 << 16, 1 << 31, 1<<32 - 1} {
		binary.BigEndian.PutUint32(b[16:], uint32(at))
		refused(t, "a list of none behind the bytes", b, fits)
	}
}

// The greatest number of either word tells how many lookups there are; those that nobody asks for are among them.
func TestHowManyLookups(t *testing.T) {
	good, bad := gives(4, 8), words(3, 0, 0, 0, 0, 0, 0)
	for _, c := range []struct {
		what string
		a, b int
		n    int
	}{
		{"A is 0", 0, none, 1}, {"B is 0", none, 0, 1}, {"A is 2", 2, none, 3}, {"B is 2", none, 2, 3}, {"A is above B", 3, 1, 4}, {"B is above A", 1, 3, 4},
	} {
		states, entries := steps(is(0, none, none), is(0, c.a, c.b), is(0, none, none))
		all := slices.Repeat([][]byte{good}, c.n)
		taken(t, c.what, laid(states, entries, all...), fits)
		taken(t, c.what+", and one behind that is none", laid(states, entries, append(slices.Clone(all), bad)...), fits)
		for i := range all {
			some := slices.Clone(all)
			some[i] = bad
			refused(t, c.what+", and one is none", laid(states, entries, some...), fits)
		}
	}
}

// The whole list is there, also where all its lookups are: at its beginning, of a number for one glyph, and no bytes behind.
func TestListWithoutAByte(t *testing.T) {
	for n := 1; n < 5; n++ {
		states, entries := steps(is(0, none, n-1), is(0, none, none))
		b, _ := machine(states, entries)
		binary.BigEndian.PutUint32(b[16:], uint32(len(b)))
		b = append(b, make([]byte, 4*n)...)
		taken(t, "a list", b, 1)
		refused(t, "a list without its last byte", b[:len(b)-1], 1)
	}
}

// An entry to which no state leads counts, if there is one behind it; behind the last one that there is nothing counts.
func TestEntriesThatCount(t *testing.T) {
	states := [][]int{slices.Repeat([]int{0}, classes), slices.Repeat([]int{2}, classes)}
	entries := []api.Entry{{A: none, B: none}, {A: none, B: 1}, {A: none, B: 0}}
	taken(t, "two lookups", laid(states, entries, gives(4, 8), gives(4, 8)), fits)
	refused(t, "a second lookup that is none", laid(states, entries, gives(4, 8), words(3, 0, 0)), fits)
	entries = []api.Entry{{A: none, B: none}, {A: none, B: none}, {A: none, B: 0}, {A: 7, B: 9}}
	taken(t, "one lookup", laid(states, entries, gives(4, 8)), fits)
	// a state to which only that entry leads is asked for
	states = append(states, slices.Repeat([]int{3}, classes))
	entries[2].Next = 2
	refused(t, "ten lookups", laid(states, entries, gives(4, 8)), fits)
	taken(t, "ten lookups", laid(states, entries, slices.Repeat([][]byte{gives(4, 8)}, 10)...), fits)
}

// A lookup's place is told from the list's beginning on, and may be any within the bytes: one for several, or the list's own.
func TestPlacesOfLookups(t *testing.T) {
	states, entries := steps(is(0, none, 0), is(0, none, 1), is(0, none, none))
	b, _ := machine(states, entries)
	list := len(b)
	binary.BigEndian.PutUint32(b[16:], uint32(list))
	one := slices.Concat(b, longs(8, 8), gives(5, 8, 9))
	x := line.New(5, 6, 5)
	if e := table(t, one).Run(x); e != api.OK || !slices.Equal(idsOf(x), []int{8, 9, 5}) {
		t.Error("two lookups at one place", x.Glyphs(), e)
	}
	// of the format 0, by the first place, whose numbers begin with 0, 0, 8: the list goes on with these
	own := slices.Concat(b, longs(0, 8), gives(5, 8, 9), words(0, 0, 0, 0))
	x = line.New(2, 6, 5)
	if e := table(t, own).Run(x); e != api.OK || !slices.Equal(idsOf(x), []int{8, 9, 5}) {
		t.Error("a lookup at the list's beginning", x.Glyphs(), e)
	}
	for _, at := range []int{0, 4, len(one) - list - 1, len(one) - list, len(one) - list + 1, len(one), 1 << 31, 1<<32 - 1, 1<<32 - list, 1<<32 - list + 20} {
		binary.BigEndian.PutUint32(one[list+4:], uint32(at))
		refused(t, "a place where no lookup is", one, fits)
	}
}

// The list may stand ahead of the machine's parts, at odd places, too.
func TestPlaceOfTheList(t *testing.T) {
	states, entries := steps(is(0, none, 0), is(0, none, none))
	b := laid(states, entries, gives(5, 8))
	_, at := machine(states, entries)
	for n := range 5 {
		more := append(slices.Repeat([]byte{0xFF}, n), slices.Concat(longs(4+n), slices.Repeat([]byte{0xFE}, n), gives(5, 9))...)
		c := slices.Concat(b[:20], more, b[20:])
		for i, place := range at {
			binary.BigEndian.PutUint32(c[4+4*i:], uint32(place+len(more)))
		}
		binary.BigEndian.PutUint32(c[16:], uint32(20+n))
		x := line.New(5, 5)
		if e := table(t, c).Run(x); e != api.OK || !slices.Equal(idsOf(x), []int{9, 5}) {
			t.Errorf("a list at %d: %v, %v", 20+n, x.Glyphs(), e)
		}
	}
}

// As many lookups as there may be; all stand at one place, so that they take no more room than one.
func TestMostLookups(t *testing.T) {
	const n = 65535
	states, entries := steps(is(0, none, n-1), is(0, none, 0), is(0, none, n/2), is(0, none, none))
	b, _ := machine(states, entries)
	binary.BigEndian.PutUint32(b[16:], uint32(len(b)))
	b = append(b, slices.Repeat(longs(4*n), n)...)
	b = append(b, words(append(make([]int, 1), slices.Repeat([]int{7}, 60000)...)...)...)
	x, e := ctx.Read(b, 60000)
	if e != api.OK {
		t.Fatal("Read", e)
	}
	y := line.New(5, 6, 59999, 8)
	if e := x.Run(y); e != api.OK || !slices.Equal(idsOf(y), []int{7, 7, 7, 8}) {
		t.Error("Run", y.Glyphs(), e)
	}
	refused(t, "a lookup that is too short for the font", b, 60001)
	refused(t, "a list that is too short", b[:len(b)-120002-1], 60000)
}

// A lookup of a number for each glyph has as many as the font has glyphs, in the list, and in the machine.
func TestGlyphsOfTheFont(t *testing.T) {
	states, entries := steps(is(0, none, 0), is(0, none, none))
	b := laid(states, entries, words(0, 1, 2, 3, 4, 5))
	c := laid(states, entries, gives(5, 8))
	binary.BigEndian.PutUint32(c[4:], uint32(len(c)))
	c = append(c, words(0, 1, 2, 3, 4, 5)...)
	for glyphs := 1; glyphs < 9; glyphs++ {
		for _, of := range [][]byte{b, c} {
			if glyphs <= 5 {
				taken(t, "a lookup of five glyphs", of, glyphs)
			} else {
				refused(t, "a lookup of five glyphs", of, glyphs)
			}
		}
	}
}

// The lookups have numbers of two bytes, and any format.
func TestFormats(t *testing.T) {
	rows := func(format, size int, l ...int) []byte {
		return append(words(format, size, 2*len(l)/size, 0, 0, 0), words(l...)...)
	}
	for _, c := range []struct {
		of   []byte
		want []int
	}{
		{words(0, 10, 11, 12, 13, 14, 15, 16, 17, 18), []int{14, 15, 16, 9}},
		{rows(2, 6, 5, 4, 11, 9, 9, 12), []int{11, 11, 6, 12}},
		{append(rows(4, 6, 5, 4, 24, 9, 9, 26), words(11, 12)...), []int{11, 12, 6, 12}},
		{rows(6, 4, 4, 11, 6, 12), []int{11, 5, 12, 9}},
		{words(8, 5, 2, 11, 12), []int{4, 11, 12, 9}},
		{append(words(10, 1, 5, 2), 11, 12), []int{4, 11, 12, 9}},
		{words(10, 4, 5, 2, 1, 11, 0x8000, 12), []int{4, 65536 + 11, 1<<31 + 12, 9}},
	} {
		ran(t, "a format", []int{4, 5, 6, 9}, c.want, [][]byte{c.of}, is(0, none, 0))
	}
}

// P15.2

func TestReadOfWrongArguments(t *testing.T) {
	for _, glyphs := range []int{0, -1, -65535, 65536, 1<<32 + 1, math.MinInt, math.MaxInt} {
		for _, b := range [][]byte{plain(), nil, {1}} {
			if x, e := ctx.Read(b, glyphs); x != nil || e != api.ErrArg {
				t.Errorf("Read of %d bytes, %d glyphs: %v, %v", len(b), glyphs, x, e)
			}
		}
	}
	for _, glyphs := range []int{1, 2, fits, 65534, 65535} {
		taken(t, "a number of glyphs that may be", plain(), glyphs)
		refused(t, "no bytes", nil, glyphs)
	}
}

func TestTake(t *testing.T) {
	b := plain()
	v := view.Of(slices.Concat([]byte{1, 2, 3}, b))
	var x *ctx.Table
	if !view.Try(func() { x = ctx.Take(v.Rest(3), fits) }) || x == nil {
		t.Fatal("Take throws")
	}
	y := line.New(6, 5)
	if e := x.Run(y); e != api.OK || !slices.Equal(idsOf(y), []int{7, 5}) {
		t.Error("Run", y.Glyphs(), e)
	}
	if view.Try(func() { ctx.Take(v, fits) }) || view.Try(func() { ctx.Take(view.View{}, fits) }) {
		t.Error("Take of no subtable doesn't throw")
	}
}

// The font's bytes are neither changed nor kept.
func TestBytesAreNotKept(t *testing.T) {
	b := plain()
	was := bytes.Clone(b)
	x, y := table(t, b), ctx.Take(view.Of(b), fits)
	x.Run(line.New(6, 5, 6))
	if !bytes.Equal(b, was) {
		t.Errorf("the bytes were changed: %x", b)
	}
	clear(b)
	for _, z := range []*ctx.Table{x, y} {
		l := line.New(6, 5)
		if e := z.Run(l); e != api.OK || !slices.Equal(idsOf(l), []int{7, 5}) {
			t.Error("Run behind a change of the bytes", l.Glyphs(), e)
		}
	}
}

// P15.3

func TestExample(t *testing.T) {
	// the class 5 is marked; at the class 6 the mark changes
	row := []int{0, 0, 0, 0, 0, 1, 2, 0}
	entries := []api.Entry{{A: none, B: none}, {Next: 1, Flags: mark, A: none, B: none}, {A: 0, B: none}}
	b := line.New(5, 6)
	if e := table(t, laid([][]int{row, row}, entries, gives(5, 9))).Run(b); e != api.OK || !slices.Equal(b.Glyphs(), []api.Glyph{{ID: 9, Cluster: 0}, {ID: 6, Cluster: 1}}) {
		t.Error("the document's example", b.Glyphs(), e)
	}
}

// nothing: an entry that does nothing.
var nothing = is(0, none, none)

// up: lookups that make of each of the glyphs 0 to 99 one that is 100 above it, and 1000 above it.
func up() [][]byte {
	a, b := []int{}, []int{}
	for i := range 100 {
		a, b = append(a, i+100), append(b, i+1000)
	}
	return [][]byte{gives(0, a...), gives(0, b...)}
}

func TestMark(t *testing.T) {
	ids := []int{4, 5, 6, 7}
	ran(t, "no mark", ids, ids, up(), is(0, 0, none))
	ran(t, "a mark, and nothing else", ids, ids, up(), is(mark, none, none))
	ran(t, "a mark, and A at the next one", ids, []int{104, 5, 6, 7}, up(), is(mark, none, none), is(0, 0, none), nothing)
	ran(t, "a mark, and A later", ids, []int{4, 105, 6, 7}, up(), nothing, is(mark, none, none), nothing, is(0, 0, none), nothing)
	ran(t, "another mark behind it", ids, []int{4, 105, 6, 7}, up(), is(mark, none, none), is(mark, none, none), is(0, 0, none), nothing)
	ran(t, "a mark in each step", ids, []int{104, 105, 106, 107}, up(), is(mark, 0, none))
	ran(t, "a mark that stays", ids, []int{4, 1005, 6, 7}, up(), nothing, is(mark, none, none), nothing, nothing, is(0, 1, none))
	ran(t, "a mark, and no lookup but for the place", ids, []int{4, 105, 6, 7}, up(), is(mark, none, none), is(0, none, 0), nothing)
	ran(t, "flags that say nothing", ids, ids, up(), is(0x3FFF, none, none), is(0, 0, none))
}

func TestPlace(t *testing.T) {
	ids := []int{4, 5, 6, 7}
	ran(t, "each", ids, []int{104, 105, 106, 107}, up(), is(0, none, 0))
	ran(t, "one", ids, []int{4, 5, 1006, 7}, up(), nothing, nothing, is(0, none, 1), nothing)
	ran(t, "each by one of its own", ids, []int{1004, 105, 1006, 107}, up(), is(0, none, 1), is(0, none, 0), is(0, none, 1), is(0, none, 0), nothing)
	ran(t, "glyphs without others", []int{100, 99, 8, 65536, -1, math.MinInt, math.MaxInt}, []int{100, 199, 108, 65536, -1, math.MinInt, math.MaxInt}, up(), is(0, none, 0))
	ran(t, "none", nil, nil, up(), is(mark, 0, 0))
}

// First the mark's glyph becomes another one, then that at the place; and only then the mark moves.
func TestOrderWithinAStep(t *testing.T) {
	ids := []int{4, 5, 6, 7}
	ran(t, "both", ids, []int{104, 1005, 6, 7}, up(), is(mark, none, none), is(0, 0, 1), nothing)
	ran(t, "a mark of the same step", ids, []int{1004, 5, 6, 7}, up(), is(mark, 0, 1), nothing)
	ran(t, "a mark of the same step, and one ahead", ids, []int{1104, 5, 6, 7}, [][]byte{up()[0], up()[1], gives(1004, 1104)}, is(mark, none, 1), is(mark, 2, none), nothing)
	// a rest at the mark: A, and then B of what A gave
	two := [][]byte{gives(4, 5, 9), gives(4, 8, 6)}
	ran(t, "both at one glyph", []int{4}, []int{6}, two, is(mark|stay, none, none), is(0, 0, 1), nothing)
	ran(t, "both at one glyph, the other way round", []int{4}, []int{8}, two, is(mark|stay, none, none), is(0, 1, 0), nothing)
	ran(t, "a glyph that is both, twice", []int{4}, []int{9}, two, is(mark|stay, none, 0), is(0, 0, none), nothing)
}

func TestEnd(t *testing.T) {
	ids := []int{4, 5, 6}
	end := func(l ...api.Entry) []api.Entry { return append(slices.Repeat([]api.Entry{nothing}, len(ids)), l...) }
	marked := func(l ...api.Entry) []api.Entry {
		return append([]api.Entry{nothing, is(mark, none, none), nothing}, l...)
	}
	ran(t, "A at the end", ids, []int{4, 105, 6}, up(), marked(is(0, 0, none))...)
	ran(t, "A at the end without a mark", ids, ids, up(), end(is(0, 0, none))...)
	ran(t, "B at the end", ids, ids, up(), marked(is(0, none, 0))...)
	ran(t, "both at the end", ids, []int{4, 105, 6}, up(), marked(is(mark, 0, 1))...)
	ran(t, "no mark at the end", ids, ids, up(), end(is(mark|stay, none, none), is(0, 0, none))...)
	ran(t, "no other mark at the end", ids, []int{4, 105, 6}, up(), marked(is(mark|stay, none, none), is(0, 0, none))...)
	ran(t, "A, A again, at the end", ids, []int{4, 7, 6}, [][]byte{gives(5, 6, 7)}, marked(is(stay, 0, none), is(0, 0, none))...)
	var zero line.Line
	states, entries := steps(is(mark, 0, 0))
	if e := table(t, laid(states, entries, up()...)).Run(&zero); e != api.OK || zero.Len() != 0 {
		t.Error("the zero Line", zero.Glyphs(), e)
	}
}

// A glyph whose class is that of the line's end stands within the line: it changes, is a mark, and the machine goes on.
func TestGlyphOfTheClassEnd(t *testing.T) {
	row := []int{1, 0, 0, 0, 0, 0, 0, 0}
	b := line.New(ended, 4, ended, ended)
	x := table(t, laid([][]int{row, row}, []api.Entry{nothing, is(mark, none, 0)}, up()...))
	if e := x.Run(b); e != api.OK || !slices.Equal(idsOf(b), []int{100 + ended, 4, 100 + ended, 100 + ended}) {
		t.Error("glyphs of the class End", b.Glyphs(), e)
	}
	b = line.New(ended, ended)
	x = table(t, laid([][]int{row, row}, []api.Entry{nothing, is(mark, 0, none)}, up()...))
	if e := x.Run(b); e != api.OK || !slices.Equal(idsOf(b), []int{100 + ended, 100 + ended}) {
		t.Error("marks of the class End", b.Glyphs(), e)
	}
}

// A lookup gives a glyph another one once a step; what it doesn't know stays.
func TestChangedOnce(t *testing.T) {
	l := [][]byte{gives(5, 6, 7)}
	ran(t, "at the place", []int{5, 6, 7}, []int{6, 7, 7}, l, is(0, none, 0))
	ran(t, "at the mark", []int{5, 4, 4}, []int{6, 4, 4}, l, is(mark, none, none), is(0, 0, none), nothing)
	ran(t, "at the mark, twice", []int{5, 4, 4}, []int{7, 4, 4}, l, is(mark, none, none), is(0, 0, none), is(0, 0, none), nothing)
	ran(t, "at the mark, as often as it is asked for", []int{5, 4, 4}, []int{7, 4, 4}, l, is(mark, none, none), is(0, 0, none))
}

// The machine goes by what glyphs are, not by what they were.
func TestClassesOfChangedGlyphs(t *testing.T) {
	// glyph 5: becomes 6, and a rest; 6: becomes 7; 7: a mark, which becomes 4
	row := []int{0, 0, 0, 0, 0, 1, 2, 3}
	entries := []api.Entry{is(0, 2, none), is(stay, none, 0), is(0, none, 1), is(mark, none, none)}
	b := line.New(5, 7, 4, 6, 7)
	if e := table(t, laid([][]int{row, row}, entries, gives(5, 6), gives(6, 7), gives(7, 4))).Run(b); e != api.OK || !slices.Equal(idsOf(b), []int{7, 4, 4, 7, 4}) {
		t.Error("classes of changed glyphs", b.Glyphs(), e)
	}
	// a mark that is changed ahead of the place of a machine that rests there
	ran(t, "a rest at the mark", []int{4, 4}, []int{7, 4}, [][]byte{gives(4, 5, 6, 7)}, is(mark|stay, none, none), is(stay, 0, none), is(stay, 0, none), is(0, 0, none), nothing)
}

// Glyphs may become deleted ones, and what a lookup gives those counts, too; Clusters stay.
func TestDeleted(t *testing.T) {
	ran(t, "a glyph that becomes deleted", []int{5, 6}, []int{api.Deleted, api.Deleted}, [][]byte{gives(5, api.Deleted, api.Deleted)}, is(0, none, 0))
	ran(t, "a mark that becomes deleted", []int{5, 6}, []int{api.Deleted, 6}, [][]byte{gives(5, api.Deleted, api.Deleted)}, is(mark, none, none), is(0, 0, none), nothing)
	ran(t, "deleted ones", []int{api.Deleted, api.Deleted}, []int{7, 8}, [][]byte{gives(api.Deleted, 7), gives(api.Deleted, 8)}, is(mark, none, none), is(0, 0, 1), nothing)
	row := []int{0, 0, 1, 0, 0, 0, 0, 0} // the class Gone
	b := line.New(5, api.Deleted, 5)
	if e := table(t, laid([][]int{row, row}, []api.Entry{is(0, 0, none), is(mark, none, none)}, gives(api.Deleted, 9))).Run(b); e != api.OK || !slices.Equal(idsOf(b), []int{5, 9, 5}) {
		t.Error("a deleted mark", b.Glyphs(), e)
	}
}

func TestClustersStay(t *testing.T) {
	l := []api.Glyph{{ID: 5, Cluster: 7}, {ID: api.Deleted, Cluster: 3}, {ID: 6, Cluster: 3}, {ID: -1, Cluster: -9}, {ID: 7, Cluster: 0}}
	b := line.Of(l)
	states, entries := steps(is(mark, 0, 1))
	want := []api.Glyph{{ID: 1005, Cluster: 7}, {ID: api.Deleted, Cluster: 3}, {ID: 1006, Cluster: 3}, {ID: -1, Cluster: -9}, {ID: 1007, Cluster: 0}}
	if e := table(t, laid(states, entries, up()...)).Run(b); e != api.OK || !slices.Equal(b.Glyphs(), want) {
		t.Error("clusters", b.Glyphs(), e)
	}
}

// Nothing of a run is kept for the next one.
func TestRunAgain(t *testing.T) {
	row := []int{0, 0, 0, 0, 0, 1, 2, 0}
	x := table(t, laid([][]int{row, row}, []api.Entry{is(0, none, none), is(mark, none, none), is(0, 0, none)}, up()...))
	for range 3 {
		for _, c := range []struct{ ids, want []int }{
			{[]int{4, 5, 6}, []int{4, 105, 6}},
			{[]int{6, 4, 6}, []int{6, 4, 6}},
			{[]int{5, 4, 4}, []int{5, 4, 4}},
		} {
			b := line.New(c.ids...)
			if e := x.Run(b); e != api.OK || !slices.Equal(idsOf(b), c.want) {
				t.Errorf("a run along %v: %v, %v, not %v", c.ids, idsOf(b), e, c.want)
			}
		}
	}
}

// What was done ahead of an error stays done.
func TestBudget(t *testing.T) {
	next := [][]byte{gives(0, slices.Collect(func(yield func(int) bool) {
		for i := 1; i < 300 && yield(i); i++ {
		}
	})...)}
	for _, c := range []struct {
		what string
		want []int
		l    []api.Entry
	}{
		{"rests without an end", []int{4, 5, 4}, []api.Entry{nothing, is(0, none, 0), is(stay, none, none)}},
		{"rests that each change the place", []int{4, 4 + 65, 4}, []api.Entry{nothing, is(stay, none, 0)}},
		{"rests that each change the mark", []int{4 + 65, 4, 4}, []api.Entry{is(mark, none, none), is(stay, 0, none)}},
		{"rests at the end that each change the mark", []int{4, 4 + 65, 4}, []api.Entry{nothing, is(mark, none, none), nothing, is(stay, 0, 0)}},
	} {
		states, entries := steps(c.l...)
		b := line.New(4, 4, 4)
		if e := table(t, laid(states, entries, next...)).Run(b); e != api.ErrBudget || !slices.Equal(idsOf(b), c.want) {
			t.Errorf("%s: %v, %v, not %v", c.what, idsOf(b), e, c.want)
		}
	}
	// 60 rests at each glyph: of 134 steps the third glyph has 12
	l := slices.Repeat([]api.Entry{is(stay, none, 0)}, 60)
	l = append(l, nothing)
	states, entries := steps(slices.Concat(l, l, l, l)...)
	b := line.New(4, 4, 4)
	if e := table(t, laid(states, entries, next...)).Run(b); e != api.ErrBudget || !slices.Equal(idsOf(b), []int{64, 64, 16}) {
		t.Error("too many steps", idsOf(b), e)
	}
}

func TestLongLine(t *testing.T) {
	const n = 65536
	states, entries := steps(is(mark, 1, 0))
	b := line.New(slices.Repeat([]int{4, 5}, n/2)...)
	if e := table(t, laid(states, entries, gives(4, 14, 15), gives(14, 24, 25))).Run(b); e != api.OK {
		t.Fatal("a long line", e)
	}
	for i, g := range b.Glyphs() {
		if want := (api.Glyph{ID: 24 + i%2, Cluster: i}); g != want {
			t.Fatalf("a long line: the glyph %d is %v, not %v", i, g, want)
		}
	}
}

// model: a run, word by word as the document says, of glyphs that have their own classes, and lookups that are maps.
func model(states [][]int, entries []api.Entry, lookups []map[int]int, l []api.Glyph) ([]api.Glyph, api.Errno) {
	l = slices.Clone(l)
	now, at, rests := 0, 0, 0
	var marked *api.Glyph
	for range 2*len(l) + 128 {
		class, end := 0, at >= len(l)
		if !end && l[at].ID != ended {
			class = 1
			if id := l[at].ID; id == api.Deleted {
				class = 2
			} else if 4 <= id && id < classes {
				class = id
			}
		}
		e := entries[states[now][class]]
		if marked != nil && e.A != none {
			if id, ok := lookups[e.A][marked.ID]; ok {
				marked.ID = id
			}
		}
		if !end && e.B != none {
			if id, ok := lookups[e.B][l[at].ID]; ok {
				l[at].ID = id
			}
		}
		if e.Flags>>15&1 == 1 && !end {
			marked = &l[at]
		}
		now = e.Next
		switch {
		case e.Flags>>14&1 == 0 && end:
			return l, api.OK
		case e.Flags>>14&1 == 0:
			at, rests = at+1, 0
		case rests == 64:
			return l, api.ErrBudget
		default:
			rests++
		}
	}
	return l, api.ErrBudget
}

// some: a lookup, and the map that it is.
func some(r *rand.Rand) ([]byte, map[int]int) {
	first := []int{0, 3, 4, 5, 6, api.Deleted}[r.Intn(6)]
	n := r.Intn(6)
	if first == api.Deleted {
		n = r.Intn(2)
	}
	is := map[int]int{}
	var ids []int
	for i := range n {
		ids = append(ids, []int{r.Intn(9), 4 + r.Intn(4), api.Deleted}[r.Intn(3)])
		is[first+i] = ids[i]
	}
	return gives(first, ids...), is
}

func TestAnyRuns(t *testing.T) {
	r := rand.New(rand.NewSource(15))
	fine, not, changed := 0, 0, 0
	for range 20000 {
		var lookups [][]byte
		var maps []map[int]int
		for range 1 + r.Intn(4) {
			b, is := some(r)
			lookups, maps = append(lookups, b), append(maps, is)
		}
		states := make([][]int, 2+r.Intn(4))
		entries := make([]api.Entry, 1+r.Intn(8))
		for i := range states {
			states[i] = make([]int, classes)
			for c := range states[i] {
				states[i][c] = r.Intn(len(entries))
			}
		}
		which := func() int { return []int{none, r.Intn(len(lookups))}[r.Intn(2)] }
		for i := range entries {
			entries[i] = api.Entry{Next: r.Intn(len(states)), Flags: r.Intn(65536), A: which(), B: which()}
			if r.Intn(3) > 0 {
				entries[i].Flags &^= stay
			}
		}
		l := make([]api.Glyph, r.Intn(12))
		for i := range l {
			l[i] = api.Glyph{ID: []int{r.Intn(10), 4 + r.Intn(4), api.Deleted}[r.Intn(3)], Cluster: r.Intn(9)}
		}
		want, fault := model(states, entries, maps, l)
		b := line.Of(l)
		if e := table(t, laid(states, entries, lookups...)).Run(b); e != fault || !slices.Equal(b.Glyphs(), want) {
			t.Fatalf("a run of %v, %v, %v along %v: %v, %v, not %v, %v", states, entries, maps, l, b.Glyphs(), e, want, fault)
		}
		if fault == api.OK {
			fine++
		} else {
			not++
		}
		if !slices.Equal(l, want) {
			changed++
		}
	}
	if fine < 3000 || not < 3000 || changed < 3000 {
		t.Error("too few runs came to their ends, or none, or changed glyphs", fine, not, changed)
	}
}

// P1: whatever bytes there are, Read ends, and so does a run of what it answers.
func TestAnyBytes(t *testing.T) {
	r := rand.New(rand.NewSource(115))
	whole, read := plain(), 0
	for range 50000 {
		b := bytes.Clone(whole)
		for range 1 + r.Intn(3) {
			b[r.Intn(len(b))] = byte([]int{r.Intn(256), r.Intn(9), 0, 0xFF}[r.Intn(4)])
		}
		x, e := ctx.Read(b, 1+r.Intn(12))
		if (x == nil) != (e != api.OK) || e != api.OK && e != api.ErrForm {
			t.Fatalf("Read of %x: %v, %v", b, x, e)
		}
		if e == api.OK {
			read++
			if e := x.Run(line.New(r.Intn(9), r.Intn(9), api.Deleted, -1)); e != api.OK && e != api.ErrBudget {
				t.Fatalf("Run of %x: %v", b, e)
			}
		}
	}
	if read < 3000 {
		t.Error("too few subtables were read", read)
	}
}
