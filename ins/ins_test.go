package ins_test

import (
	"bytes"
	"encoding/binary"
	"math"
	"math/rand"
	"slices"
	"testing"

	"swash/api"
	"swash/ins"
	"swash/line"
	"swash/view"
)

const (
	mark    = 0x8000
	stay    = 0x4000
	before  = 0x0800
	ahead   = 0x0400 // of the mark
	none    = 0xFFFF
	gone    = api.Deleted
	classes = 8 // of the glyphs 4 to 7, which have these as classes
	fits    = 9 // glyphs of the tests' font
	ended   = 3 // a glyph that has the class of the line's end, 0
	head    = 20
	plenty  = 1 << 20
)

// words, longs: each one's two, or four, bytes.
func words(l ...int) []byte {
	var b []byte
	for _, n := range l {
		b = binary.BigEndian.AppendUint16(b, uint16(n))
	}
	return b
}

func longs(l ...int) []byte {
	var b []byte
	for _, n := range l {
		b = binary.BigEndian.AppendUint32(b, uint32(n))
	}
	return b
}

// machine: a machine's bytes, and where its lookup, its states and its entries stand in them.
func machine(states [][]int, entries []api.Entry) (b []byte, at [3]int) {
	of := words(8, ended, 5, 0, 4, 5, 6, 7)
	at[0] = head
	at[1] = at[0] + len(of)
	at[2] = at[1] + 2*classes*len(states)
	b = slices.Concat(longs(classes, at[0], at[1], at[2], 0), of)
	for _, s := range states {
		b = append(b, words(s...)...)
	}
	for _, e := range entries {
		b = append(b, words(e.Next, e.Flags, e.A, e.B)...)
	}
	return b, at
}

// laid: a subtable's bytes: the machine, and behind it the list.
func laid(states [][]int, entries []api.Entry, list ...int) []byte {
	b, _ := machine(states, entries)
	binary.BigEndian.PutUint32(b[16:], uint32(len(b)))
	return append(b, words(list...)...)
}

// steps: a machine that does an entry for each of its steps, whatever the glyphs; the last one again for all behind.
func steps(entries ...api.Entry) ([][]int, []api.Entry) {
	var states [][]int
	out := slices.Clone(entries)
	for i := range out {
		states = append(states, slices.Repeat([]int{i}, classes))
		out[i].Next = min(i+1, len(out)-1)
	}
	if len(states) < 2 {
		states = append(states, make([]int, classes))
	}
	return states, out
}

// put: an entry of flags that puts so many glyphs at the place, from one of the list on.
func put(flags, n, from int) api.Entry { return api.Entry{Flags: flags | n<<5, A: from, B: none} }

// putMarked: likewise at the mark.
func putMarked(flags, n, from int) api.Entry { return api.Entry{Flags: flags | n, A: none, B: from} }

// nothing: an entry that does nothing but what its flags say.
func nothing(flags int) api.Entry { return api.Entry{Flags: flags, A: none, B: none} }

// both: an entry that does what one does at the place, and the other one at the mark.
func both(a, b api.Entry) api.Entry { return api.Entry{Flags: a.Flags | b.Flags, A: a.A, B: b.B} }

// hundreds: a list of the glyphs from 100 on.
func hundreds() []int {
	l := make([]int, 40)
	for i := range l {
		l[i] = 100 + i
	}
	return l
}

// table: the subtable that bytes begin with.
func table(t *testing.T, b []byte) *ins.Table {
	t.Helper()
	x, e := ins.Read(b, fits)
	if e != api.OK || x == nil {
		t.Fatal("a test's subtable:", e)
	}
	return x
}

func idsOf(b *line.Line) []int {
	var l []int
	for _, g := range b.Glyphs() {
		l = append(l, g.ID)
	}
	return l
}

// ran: of some glyphs, steps of some entries, and the glyphs from 100 on, others come.
func ran(t *testing.T, what string, ids, want []int, entries ...api.Entry) {
	t.Helper()
	states, all := steps(entries...)
	b := line.New(ids...)
	if n, e := table(t, laid(states, all, hundreds()...)).Run(b, plenty); e != api.OK || n != len(want)-len(ids) || !slices.Equal(idsOf(b), want) {
		t.Errorf("%s: %v, %v, %v, not %v", what, idsOf(b), n, e, want)
	}
}

func taken(t *testing.T, what string, b []byte, glyphs int) {
	t.Helper()
	if x, e := ins.Read(b, glyphs); x == nil || e != api.OK {
		t.Errorf("Read of %s: %v, %v", what, x, e)
	}
	var x *ins.Table
	if !view.Try(func() { x = ins.Take(view.Of(b), glyphs) }) || x == nil {
		t.Errorf("Take of %s throws", what)
	}
}

func refused(t *testing.T, what string, b []byte, glyphs int) {
	t.Helper()
	if x, e := ins.Read(b, glyphs); x != nil || e != api.ErrForm {
		t.Errorf("Read of %s: %v, %v", what, x, e)
	}
	if view.Try(func() { ins.Take(view.Of(b), glyphs) }) {
		t.Errorf("Take of %s doesn't throw", what)
	}
}

func TestConstants(t *testing.T) {
	if ins.Mark != mark || ins.Before != before || ins.BeforeMarked != ahead || ins.None != none {
		t.Error("constants", ins.Mark, ins.Before, ins.BeforeMarked, ins.None)
	}
}

// P18.1

// plain: a subtable that puts 7, 9 behind the first glyph, and marks it; and puts 9 behind that at the next one.
func plain() []byte {
	states, entries := steps(put(mark, 2, 1), putMarked(0, 1, 2), nothing(0))
	return laid(states, entries, 8, 7, 9)
}

// Each byte up to the last glyph's last one is needed, and none behind.
func TestReadOfPieces(t *testing.T) {
	b := plain()
	taken(t, "all bytes", b, fits)
	for n := range len(b) {
		refused(t, "less than all bytes", b[:n], fits)
	}
	for _, more := range [][]byte{{0}, {0xFF, 0xFF}, make([]byte, 100)} {
		taken(t, "more bytes", slices.Concat(b, more), fits)
	}
}

func TestReadOfNoMachine(t *testing.T) {
	states, entries := steps(put(mark, 2, 1), putMarked(0, 1, 2))
	_, at := machine(states, entries)
	for _, c := range []struct {
		what    string
		at, num int
	}{
		{"too few classes", 2, 3}, {"too many classes", 0, 1}, {"a machine's lookup behind the bytes", 6, 0x7FFF}, {"a machine without a lookup", at[0], 3},
		{"states behind the bytes", 10, 0x7FFF}, {"entries behind the bytes", 14, 0x7FFF}, {"an entry that isn't there", at[1], 0x7FFF}, {"a state that isn't there", at[2], 0x7FFF},
	} {
		b := laid(states, entries, 8, 7, 9)
		taken(t, "a subtable that is one", b, fits)
		binary.BigEndian.PutUint16(b[c.at:], uint16(c.num))
		refused(t, c.what, b, fits)
	}
}

// The list is at a place within the bytes, or at their end, also where nobody asks for a glyph of it.
func TestPlaceOfTheListOfNone(t *testing.T) {
	states, entries := steps(nothing(mark|31<<5|31), put(0, 0, 0), putMarked(0, 0, 0))
	b, _ := machine(states, entries)
	for _, at := range []int{0, 1, 19, len(b) - 3, len(b) - 1, len(b)} {
		binary.BigEndian.PutUint32(b[16:], uint32(at))
		taken(t, "a list of none", b, fits)
	}
	for _, at := range []int{len(b) + 1, len(b) + 2, 1 << 16, 1 << 31, 1<<32 - 1} {
		binary.BigEndian.PutUint32(b[16:], uint32(at))
		refused(t, "a list of none behind the bytes", b, fits)
	}
}

// The shortest of all: its entries, its states and its lookup stand upon its own beginning.
func TestShortest(t *testing.T) {
	b := slices.Concat(longs(4, 16, 16, 16, 0), longs(0, 0, 0))
	taken(t, "the shortest", b, 1)
	for n := range b {
		refused(t, "less than the shortest", b[:n], 1)
	}
}

// All glyphs that an entry puts are there, and of those that nobody puts none has to be.
func TestWhichGlyphs(t *testing.T) {
	for _, c := range []struct {
		what string
		e    func(flags, n, from int) api.Entry
	}{{"at the place", put}, {"at the mark", putMarked}} {
		for _, is := range []struct{ n, from, list int }{{1, 0, 1}, {2, 0, 2}, {1, 1, 2}, {2, 5, 7}, {31, 0, 31}, {31, 4, 35}, {16, 3, 19}, {8, 3, 11}, {4, 3, 7}, {1, 0xFFFE, 0xFFFF}, {31, 0xFFFE, 0xFFFE + 31}} {
			states, entries := steps(nothing(0), c.e(0, is.n, is.from), nothing(0))
			b := laid(states, entries, make([]int, is.list)...)
			taken(t, c.what+", all of them", b, fits)
			refused(t, c.what+", all but the last byte", b[:len(b)-1], fits)
			refused(t, c.what+", all but the last one", b[:len(b)-2], fits)
		}
		// of no glyphs none is asked for, wherever they would stand
		for _, from := range []int{0, 1, 2, 100, 0xFFFE, none} {
			states, entries := steps(c.e(mark|stay|before|ahead|0x3000, 0, from), nothing(0))
			taken(t, c.what+", none", laid(states, entries, 1), fits)
		}
		for n := range 32 {
			states, entries := steps(c.e(0, n, none), nothing(0))
			taken(t, c.what+", from none", laid(states, entries), fits)
		}
	}
	// each of both by its own number
	states, entries := steps(both(put(0, 3, 2), putMarked(0, 2, 1)), nothing(0))
	taken(t, "both", laid(states, entries, make([]int, 5)...), fits)
	refused(t, "both, too few at the place", laid(states, entries, make([]int, 4)...), fits)
	states, entries = steps(both(put(0, 2, 1), putMarked(0, 3, 2)), nothing(0))
	taken(t, "both", laid(states, entries, make([]int, 5)...), fits)
	refused(t, "both, too few at the mark", laid(states, entries, make([]int, 4)...), fits)
}

// An entry to which no state leads counts, if there is one behind it; behind the last one that there is nothing counts.
func TestEntriesThatCount(t *testing.T) {
	states := [][]int{slices.Repeat([]int{0}, classes), slices.Repeat([]int{2}, classes)}
	entries := []api.Entry{nothing(0), put(0, 1, 1), nothing(0)}
	taken(t, "two glyphs", laid(states, entries, 8, 8), fits)
	refused(t, "one glyph", laid(states, entries, 8), fits)
	entries = []api.Entry{nothing(0), nothing(0), nothing(0), put(0, 5, 0x7000)}
	taken(t, "an entry behind all", laid(states, entries), fits)
}

// The list may stand ahead of the machine's parts, at odd places, too, and upon something else.
func TestPlaceOfTheList(t *testing.T) {
	states, entries := steps(put(0, 2, 1), nothing(0))
	_, at := machine(states, entries)
	b := laid(states, entries, 100, 101, 102)
	for n := range 5 {
		more := slices.Concat(slices.Repeat([]byte{0xFE}, n), words(50, 51, 52), slices.Repeat([]byte{0xFE}, n))
		c := slices.Concat(b[:head], more, b[head:])
		for i, place := range at {
			binary.BigEndian.PutUint32(c[4+4*i:], uint32(place+len(more)))
		}
		binary.BigEndian.PutUint32(c[16:], uint32(head+n))
		x := line.New(5, 5)
		if n, e := table(t, c).Run(x, 9); n != 2 || e != api.OK || !slices.Equal(idsOf(x), []int{5, 51, 52, 5}) {
			t.Errorf("a list at %d: %v, %v", head+n, x.Glyphs(), e)
		}
	}
	binary.BigEndian.PutUint32(b[16:], 0)
	x := line.New(5, 5)
	if n, e := table(t, b).Run(x, 9); n != 2 || e != api.OK || !slices.Equal(idsOf(x), []int{5, classes, 0, 5}) {
		t.Error("a list at the beginning", x.Glyphs(), e)
	}
}

// A lookup of a number for each glyph has as many as the font has glyphs.
func TestGlyphsOfTheFont(t *testing.T) {
	b := plain()
	binary.BigEndian.PutUint32(b[4:], uint32(len(b)))
	b = append(b, words(0, 1, 2, 3, 4, 5)...)
	for glyphs := 1; glyphs < 9; glyphs++ {
		if glyphs <= 5 {
			taken(t, "a lookup of five glyphs", b, glyphs)
		} else {
			refused(t, "a lookup of five glyphs", b, glyphs)
		}
	}
}

// P18.2

func TestReadOfWrongArguments(t *testing.T) {
	for _, glyphs := range []int{0, -1, -65535, 65536, 1<<32 + 1, math.MinInt, math.MaxInt} {
		for _, b := range [][]byte{plain(), nil, {1}} {
			if x, e := ins.Read(b, glyphs); x != nil || e != api.ErrArg {
				t.Errorf("Read of %d bytes, %d glyphs: %v, %v", len(b), glyphs, x, e)
			}
		}
	}
	for _, glyphs := range []int{1, 2, fits, 65534, 65535} {
		taken(t, "a number of glyphs that may be", plain(), glyphs)
		refused(t, "no bytes", nil, glyphs)
	}
}

func TestTake(t *testing.T) {
	b := plain()
	v := view.Of(slices.Concat([]byte{1, 2, 3}, b))
	var x *ins.Table
	if !view.Try(func() { x = ins.Take(v.Rest(3), fits) }) || x == nil {
		t.Fatal("Take throws")
	}
	y := line.New(6, 5)
	if n, e := x.Run(y, 9); n != 3 || e != api.OK || !slices.Equal(idsOf(y), []int{6, 9, 7, 9, 5}) {
		t.Error("Run", y.Glyphs(), e)
	}
	if view.Try(func() { ins.Take(v, fits) }) || view.Try(func() { ins.Take(view.View{}, fits) }) {
		t.Error("Take of no subtable doesn't throw")
	}
}

// The font's bytes aren't changed, and Read doesn't keep them.
func TestBytesAreNotKept(t *testing.T) {
	b := plain()
	was := bytes.Clone(b)
	x := table(t, b)
	x.Run(line.New(6, 5), 9)
	ins.Take(view.Of(b), fits).Run(line.New(6, 5), 9)
	if !bytes.Equal(b, was) {
		t.Errorf("the bytes were changed: %x", b)
	}
	for _, n := range []byte{0, 0xFF} {
		for i := range b {
			b[i] = n
		}
		l := line.New(6, 5)
		if n, e := x.Run(l, 9); n != 3 || e != api.OK || !slices.Equal(idsOf(l), []int{6, 9, 7, 9, 5}) {
			t.Error("Run behind a change of the bytes", l.Glyphs(), e)
		}
	}
}

// P18.3

func TestExample(t *testing.T) {
	states, entries := steps(put(0, 1, 0))
	b := line.New(5, 6)
	want := []api.Glyph{{ID: 5, Cluster: 0}, {ID: 9, Cluster: 1}, {ID: 6, Cluster: 1}, {ID: 9, Cluster: 1}, {ID: 9, Cluster: 1}}
	if n, e := table(t, laid(states, entries, 9)).Run(b, plenty); n != 3 || e != api.OK || !slices.Equal(b.Glyphs(), want) {
		t.Error("the document's example", b.Glyphs(), n, e)
	}
}

func TestAtThePlace(t *testing.T) {
	ids := []int{4, 5, 6}
	ran(t, "nothing", ids, ids, nothing(0))
	ran(t, "no glyphs", ids, ids, put(0, 0, 3))
	ran(t, "behind the first one", ids, []int{4, 103, 5, 6}, put(0, 1, 3), nothing(0))
	ran(t, "ahead of the first one", ids, []int{103, 4, 5, 6}, put(before, 1, 3), nothing(0))
	ran(t, "behind the last one", ids, []int{4, 5, 6, 100, 101}, nothing(0), nothing(0), put(0, 2, 0), nothing(0))
	ran(t, "ahead of the last one", ids, []int{4, 5, 100, 101, 6}, nothing(0), nothing(0), put(before, 2, 0), nothing(0))
	ran(t, "at the end", ids, []int{4, 5, 6, 100, 101}, nothing(0), nothing(0), nothing(0), put(0, 2, 0))
	ran(t, "at the end, with the flag", ids, []int{4, 5, 6, 100, 101}, nothing(0), nothing(0), nothing(0), put(before, 2, 0))
	ran(t, "several behind each", ids, []int{4, 100, 101, 5, 101, 102, 103, 6, 105}, put(0, 2, 0), put(0, 3, 1), put(0, 1, 5), nothing(0))
	ran(t, "several ahead of each", ids, []int{100, 101, 4, 101, 102, 103, 5, 105, 6}, put(before, 2, 0), put(before, 3, 1), put(before, 1, 5), nothing(0))
	ran(t, "as many as can be", ids, slices.Concat([]int{4}, hundreds()[9:], []int{5, 6}), put(0, 31, 9), nothing(0))
	ran(t, "flags that say nothing", ids, []int{4, 100, 5, 6}, put(0x3000|ahead, 1, 0), nothing(0x3FFF))
	ran(t, "no line", nil, []int{100}, put(0, 1, 0), put(0, 1, 1))
	ran(t, "no line, with the flag", nil, []int{100}, put(before, 1, 0), put(0, 1, 1))
}

func TestAtTheMark(t *testing.T) {
	ids := []int{4, 5, 6}
	ran(t, "no mark", ids, ids, putMarked(0, 1, 0))
	ran(t, "behind the mark", ids, []int{4, 103, 5, 6}, nothing(mark), putMarked(0, 1, 3), nothing(0))
	ran(t, "ahead of the mark", ids, []int{103, 4, 5, 6}, nothing(mark), putMarked(ahead, 1, 3), nothing(0))
	ran(t, "behind a mark further off", ids, []int{4, 100, 101, 5, 6}, nothing(mark), nothing(0), putMarked(0, 2, 0), nothing(0))
	ran(t, "ahead of a mark further off", ids, []int{100, 101, 4, 5, 6}, nothing(mark), nothing(0), putMarked(ahead, 2, 0), nothing(0))
	ran(t, "behind the mark, at the end", ids, []int{4, 5, 6, 100, 101}, nothing(0), nothing(0), nothing(mark), putMarked(0, 2, 0))
	ran(t, "ahead of the mark, at the end", ids, []int{4, 5, 100, 101, 6}, nothing(0), nothing(0), nothing(mark), putMarked(ahead, 2, 0))
	ran(t, "not with the flag for the place", ids, []int{4, 103, 5, 6}, nothing(mark), putMarked(before, 1, 3), nothing(0))
	ran(t, "as many as can be", ids, slices.Concat([]int{4}, hundreds()[9:], []int{5, 6}), nothing(mark), putMarked(0, 31, 9), nothing(0))
	ran(t, "another mark", ids, []int{4, 5, 100, 6}, nothing(mark), nothing(mark), putMarked(0, 1, 0), nothing(0))
	ran(t, "the mark of the step itself comes behind", ids, []int{4, 100, 5, 6}, nothing(mark), putMarked(mark, 1, 0), nothing(0))
	ran(t, "a mark in each step", ids, []int{4, 100, 5, 100, 6, 100}, putMarked(mark, 1, 0))
	ran(t, "no mark of the step itself", ids, ids, nothing(0), nothing(0), putMarked(mark, 1, 0), nothing(0))
	ran(t, "no mark at the end", ids, []int{4, 100, 5, 6}, nothing(mark), nothing(0), nothing(0), nothing(mark|stay), putMarked(0, 1, 0))
	ran(t, "no mark at the end, and none ahead", ids, ids, nothing(0), nothing(0), nothing(0), nothing(mark|stay), putMarked(0, 1, 0))
}

// First comes what is put at the mark, then what is put at the place, then the mark.
func TestBoth(t *testing.T) {
	ids := []int{4, 5, 6}
	ran(t, "behind both", ids, []int{4, 110, 5, 100, 6}, nothing(mark), both(put(0, 1, 0), putMarked(0, 1, 10)), nothing(0))
	ran(t, "ahead of the place, behind the mark", ids, []int{4, 110, 111, 100, 101, 5, 6}, nothing(mark), both(put(before, 2, 0), putMarked(0, 2, 10)), nothing(0))
	ran(t, "behind the place, ahead of the mark", ids, []int{110, 4, 5, 100, 6}, nothing(mark), both(put(0, 1, 0), putMarked(ahead, 1, 10)), nothing(0))
	ran(t, "ahead of both", ids, []int{110, 4, 100, 5, 6}, nothing(mark), both(put(before, 1, 0), putMarked(ahead, 1, 10)), nothing(0))
	ran(t, "at the end, behind the mark there", ids, []int{4, 5, 6, 110, 111, 100, 101}, nothing(0), nothing(0), nothing(mark), both(put(0, 2, 0), putMarked(0, 2, 10)))
	// a rest at the mark: both are one glyph
	marked := nothing(mark | stay)
	ran(t, "behind one glyph", ids, []int{4, 100, 101, 110, 111, 5, 6}, marked, both(put(0, 2, 0), putMarked(0, 2, 10)), nothing(0))
	ran(t, "ahead of one glyph", ids, []int{110, 111, 100, 101, 4, 5, 6}, marked, both(put(before, 2, 0), putMarked(ahead, 2, 10)), nothing(0))
	ran(t, "ahead of one glyph, and behind it as the mark", ids, []int{100, 4, 110, 5, 6}, marked, both(put(before, 1, 0), putMarked(0, 1, 10)), nothing(0))
	ran(t, "behind one glyph, and ahead of it as the mark", ids, []int{110, 4, 100, 5, 6}, marked, both(put(0, 1, 0), putMarked(ahead, 1, 10)), nothing(0))
}

// The mark stays upon its glyph, wherever that comes to stand.
func TestMarkMoves(t *testing.T) {
	ids := []int{4, 5, 6}
	ran(t, "ahead of its own glyph, as it is marked", ids, []int{100, 101, 4, 110, 5, 6}, put(mark|before, 2, 0), putMarked(0, 1, 10), nothing(0))
	ran(t, "behind its own glyph, as it is marked", ids, []int{4, 110, 100, 101, 5, 6}, put(mark, 2, 0), putMarked(0, 1, 10), nothing(0))
	ran(t, "ahead of the mark, twice", ids, []int{100, 101, 101, 102, 4, 5, 6}, nothing(mark), putMarked(ahead, 2, 0), putMarked(ahead, 2, 1), nothing(0))
	ran(t, "behind the mark, twice", ids, []int{4, 101, 102, 100, 101, 5, 6}, nothing(mark), putMarked(0, 2, 0), putMarked(0, 2, 1), nothing(0))
	ran(t, "ahead of the mark, and then behind it", ids, []int{100, 101, 4, 105, 5, 6}, nothing(mark), putMarked(ahead, 2, 0), putMarked(0, 1, 5), nothing(0))
	ran(t, "at another place, and then at the mark", ids, []int{4, 105, 102, 5, 6, 103}, nothing(mark), put(before, 1, 2), put(0, 1, 3), putMarked(0, 1, 5))
	// marked with a rest at what was put ahead of it: what is put there moves it on
	ran(t, "from ahead of the mark on", ids, []int{100, 103, 104, 4, 105, 5, 6}, put(mark|stay|before, 1, 0), put(0, 2, 3), nothing(0), putMarked(0, 1, 5), nothing(0))
	ran(t, "from ahead of the mark on, ahead of that", ids, []int{103, 104, 100, 105, 4, 5, 6}, put(mark|stay|before, 1, 0), put(before, 2, 3), putMarked(ahead, 1, 5), nothing(0))
	ran(t, "from ahead of the mark on, between", ids, []int{100, 104, 103, 4, 5, 6}, put(mark|stay|before, 1, 0), both(put(0, 1, 4), putMarked(ahead, 1, 3)), nothing(0))
	ran(t, "from ahead of the mark on, a mark of that", ids, []int{100, 103, 4, 5, 6}, put(mark|stay|before, 1, 0), nothing(mark), putMarked(0, 1, 3), nothing(0))
}

// Where the machine goes on is told by a glyph, 120, that it puts there behind its own one.
func TestGoesOn(t *testing.T) {
	here := put(0, 1, 20)
	ids := []int{4, 5, 6}
	ran(t, "behind what was put behind", ids, []int{4, 100, 101, 5, 120, 6}, put(0, 2, 0), here, nothing(0))
	ran(t, "behind its own glyph, and not what was put ahead", ids, []int{100, 101, 4, 5, 120, 6}, put(before, 2, 0), here, nothing(0))
	ran(t, "behind its own glyph, where the mark's came ahead", ids, []int{4, 110, 111, 5, 6, 120}, nothing(mark), putMarked(0, 2, 10), here, nothing(0))
	ran(t, "behind its own glyph, where both came ahead", ids, []int{4, 110, 111, 100, 5, 6, 120}, nothing(mark), both(put(before, 1, 0), putMarked(0, 2, 10)), here, nothing(0))
	ran(t, "behind its own glyph, and all at the place, where the mark is behind", ids, []int{4, 100, 110, 120, 5, 6}, nothing(mark|stay), both(put(0, 1, 0), putMarked(0, 1, 10)), here, nothing(0))
	ran(t, "behind the last one", ids, []int{4, 5, 6, 100, 120}, nothing(0), nothing(0), put(0, 1, 0), here)

	ran(t, "rests at its own glyph", ids, []int{4, 120, 5, 6}, nothing(stay), here, nothing(0))
	ran(t, "rests at its own glyph, what was put behind it", ids, []int{4, 120, 100, 101, 5, 6}, put(stay, 2, 0), here, nothing(0))
	ran(t, "rests at the first one that was put ahead", ids, []int{100, 120, 101, 4, 5, 6}, put(stay|before, 2, 0), here, nothing(0))
	ran(t, "rests at its own glyph, none was put ahead", ids, []int{4, 120, 5, 6}, put(stay|before, 0, 0), here, nothing(0))
	ran(t, "rests at its own glyph, none was put ahead, as it is none", ids, []int{4, 120, 5, 6}, nothing(stay|before|3<<5), here, nothing(0))
	ran(t, "rests at its own glyph, where the mark's came ahead", ids, []int{4, 110, 111, 5, 120, 6}, nothing(mark), putMarked(stay, 2, 10), here, nothing(0))
	ran(t, "rests at the first one put ahead, where the mark's came ahead", ids, []int{4, 110, 111, 100, 120, 101, 5, 6}, nothing(mark), both(put(stay|before, 2, 0), putMarked(0, 2, 10)), here, nothing(0))
	ran(t, "rests at its own glyph, where the mark's came ahead of that", ids, []int{110, 111, 4, 5, 120, 6}, nothing(mark), putMarked(stay|ahead, 2, 10), here, nothing(0))
	ran(t, "rests at the mark, ahead of which some came", ids, []int{110, 111, 4, 120, 5, 6}, nothing(mark|stay), putMarked(stay|ahead, 2, 10), here, nothing(0))

	end := []api.Entry{nothing(0), nothing(0), nothing(mark)}
	at := func(l ...api.Entry) []api.Entry { return append(slices.Clone(end), l...) }
	ran(t, "rests at the end", ids, []int{4, 5, 6, 120}, at(nothing(stay), here, nothing(0))...)
	ran(t, "rests at the first one put at the end", ids, []int{4, 5, 6, 100, 120, 101}, at(put(stay, 2, 0), here, nothing(0))...)
	ran(t, "rests at the first one put at the end, with the flag", ids, []int{4, 5, 6, 100, 120, 101}, at(put(stay|before, 2, 0), here, nothing(0))...)
	ran(t, "rests at the end, where the mark's came ahead", ids, []int{4, 5, 6, 110, 111, 120}, at(putMarked(stay, 2, 10), here, nothing(0))...)
	ran(t, "rests at the end, where the mark's came ahead of the mark", ids, []int{4, 5, 110, 111, 6, 120}, at(putMarked(stay|ahead, 2, 10), here, nothing(0))...)
	ran(t, "rests at the first one put at the end, behind the mark's", ids, []int{4, 5, 6, 110, 100, 120, 101}, at(both(put(stay, 2, 0), putMarked(0, 1, 10)), here, nothing(0))...)
	ran(t, "rests at the end of no line", nil, []int{100, 120, 101}, put(stay, 2, 0), here, nothing(0))
	ran(t, "ends at the end, whatever was put there", ids, []int{4, 5, 6, 100, 101}, at(put(0, 2, 0), here)...)
}

// What is put has the cluster of the glyph ahead of which it stands; at the end that of the last one.
func TestClusters(t *testing.T) {
	of := []api.Glyph{{ID: 4, Cluster: 7}, {ID: 5, Cluster: 3}, {ID: 6, Cluster: 9}}
	for _, c := range []struct {
		what string
		l    []api.Entry
		want []int
	}{
		{"ahead of each", []api.Entry{put(before, 1, 0)}, []int{7, 7, 3, 3, 9, 9, 9}},
		{"behind each", []api.Entry{put(0, 1, 0)}, []int{7, 3, 3, 9, 9, 9, 9}},
		{"several", []api.Entry{put(0, 3, 0), put(before, 2, 0), nothing(0)}, []int{7, 3, 3, 3, 3, 3, 3, 9}},
		{"ahead of the mark", []api.Entry{nothing(mark), putMarked(ahead, 2, 0), nothing(0)}, []int{7, 7, 7, 3, 9}},
		{"behind the mark", []api.Entry{nothing(mark), nothing(0), putMarked(0, 2, 0), nothing(0)}, []int{7, 3, 3, 3, 9}},
		{"behind the mark, at the end", []api.Entry{nothing(mark), nothing(mark), nothing(mark), putMarked(0, 2, 0)}, []int{7, 3, 9, 9, 9}},
		{"behind what was put at the mark", []api.Entry{nothing(mark), both(put(before, 1, 0), putMarked(0, 1, 10)), nothing(0)}, []int{7, 3, 3, 3, 9}},
	} {
		states, entries := steps(c.l...)
		b := line.Of(of)
		_, e := table(t, laid(states, entries, hundreds()...)).Run(b, plenty)
		var clusters []int
		for _, g := range b.Glyphs() {
			clusters = append(clusters, g.Cluster)
		}
		if e != api.OK || !slices.Equal(clusters, c.want) {
			t.Errorf("%s: %v, %v, not %v", c.what, clusters, e, c.want)
		}
	}
}

// A machine's classes choose its entries, also those of what was put.
func TestClasses(t *testing.T) {
	// the class 4 rests at a 5 that is put ahead of it; the class 5 has a 6, and a deleted one, put behind it
	rows := [][]int{{0, 0, 0, 0, 1, 2, 0, 0}, {0, 0, 0, 0, 0, 2, 0, 0}}
	entries := []api.Entry{nothing(0), put(stay|before, 1, 0), put(0, 2, 1)}
	entries[1].Next, entries[2].Next = 1, 1
	x := table(t, laid(rows, entries, 5, 6, gone))
	for _, c := range []struct{ ids, want []int }{
		{[]int{4}, []int{5, 6, gone, 4}}, {[]int{5, 4}, []int{5, 6, gone, 4}}, {[]int{6, 4, 4, 7}, []int{6, 5, 6, gone, 4, 5, 6, gone, 4, 7}}, {[]int{ended, 4}, []int{ended, 5, 6, gone, 4}},
	} {
		b := line.New(c.ids...)
		if n, e := x.Run(b, plenty); e != api.OK || n != len(c.want)-len(c.ids) || !slices.Equal(idsOf(b), c.want) {
			t.Errorf("classes of %v: %v, %v, %v, not %v", c.ids, idsOf(b), n, e, c.want)
		}
	}
}

// A run begins without a mark, whatever the one ahead of it marked.
func TestRunAgain(t *testing.T) {
	states, entries := steps(putMarked(0, 1, 0), nothing(mark), nothing(0))
	x := table(t, laid(states, entries, 9))
	for range 3 {
		b := line.New(4, 5)
		if n, e := x.Run(b, plenty); n != 0 || e != api.OK || !slices.Equal(idsOf(b), []int{4, 5}) {
			t.Error("a run again", idsOf(b), n, e)
		}
	}
}

// P18.4

func TestLeft(t *testing.T) {
	ids := []int{4, 5}
	all := []api.Entry{put(mark, 3, 0), both(put(0, 2, 5), putMarked(0, 4, 10)), put(0, 1, 20)}
	for _, c := range []struct {
		left int
		n    int
		want []int
	}{
		{math.MinInt, 0, ids}, {-1, 0, ids}, {0, 0, ids}, {1, 0, ids}, {2, 0, ids},
		{3, 3, []int{4, 100, 101, 102, 5}}, {6, 3, []int{4, 100, 101, 102, 5}},
		{7, 7, []int{4, 110, 111, 112, 113, 100, 101, 102, 5}}, {8, 7, []int{4, 110, 111, 112, 113, 100, 101, 102, 5}},
		{9, 9, []int{4, 110, 111, 112, 113, 100, 101, 102, 5, 105, 106}},
		{10, 10, []int{4, 110, 111, 112, 113, 100, 101, 102, 5, 105, 106, 120}},
		{11, 10, []int{4, 110, 111, 112, 113, 100, 101, 102, 5, 105, 106, 120}},
		{math.MaxInt, 10, []int{4, 110, 111, 112, 113, 100, 101, 102, 5, 105, 106, 120}},
	} {
		states, entries := steps(all...)
		want := api.ErrBudget
		if c.left >= 10 {
			want = api.OK
		}
		b := line.New(ids...)
		if n, e := table(t, laid(states, entries, hundreds()...)).Run(b, c.left); n != c.n || e != want || !slices.Equal(idsOf(b), c.want) {
			t.Errorf("with %d left: %v, %v, %v, not %v", c.left, idsOf(b), n, e, c.want)
		}
	}
}

// Where nothing is put, nothing has to be left.
func TestNothingLeft(t *testing.T) {
	states, entries := steps(nothing(mark), put(before, 0, 0), nothing(3<<5), nothing(3), putMarked(mark, 0, 0))
	for _, left := range []int{math.MinInt, -1, 0} {
		b := line.New(4, 5, 6, 7)
		if n, e := table(t, laid(states, entries)).Run(b, left); n != 0 || e != api.OK || !slices.Equal(idsOf(b), []int{4, 5, 6, 7}) {
			t.Errorf("with %d left: %v, %v, %v", left, idsOf(b), n, e)
		}
	}
}

// Behind what isn't put nothing is put any more, even if it were few enough.
func TestNoneAnyMore(t *testing.T) {
	for _, c := range []struct {
		what string
		n    int
		want []int
		l    []api.Entry
	}{
		{"a lesser one behind", 0, []int{4, 5, 6}, []api.Entry{put(0, 4, 0), put(0, 1, 0), nothing(0)}},
		{"a lesser one behind another", 2, []int{4, 100, 101, 5, 6}, []api.Entry{put(0, 2, 0), put(0, 2, 0), put(0, 1, 0), nothing(0)}},
		{"a lesser one at the place, behind one at the mark", 0, []int{4, 5, 6}, []api.Entry{nothing(mark), both(put(0, 1, 0), putMarked(0, 4, 0)), nothing(0)}},
		{"a lesser one at the mark, ahead of one at the place", 1, []int{4, 100, 5, 6}, []api.Entry{nothing(mark), both(put(0, 4, 0), putMarked(0, 1, 0)), putMarked(0, 1, 0), nothing(0)}},
		{"a rest", 0, []int{4, 5, 6}, []api.Entry{put(stay, 4, 0), put(0, 1, 0), nothing(0)}},
		{"rests at the end", 0, []int{4, 5, 6}, []api.Entry{put(stay, 4, 0), put(stay, 1, 0), put(stay|before, 1, 0), put(0, 1, 0)}},
		{"rests without an end", 0, []int{4, 5, 6}, []api.Entry{put(stay, 4, 0), put(stay, 1, 0)}},
	} {
		states, entries := steps(c.l...)
		b := line.New(4, 5, 6)
		if n, e := table(t, laid(states, entries, hundreds()...)).Run(b, 3); n != c.n || e != api.ErrBudget || !slices.Equal(idsOf(b), c.want) {
			t.Errorf("%s: %v, %v, %v, not %v", c.what, idsOf(b), n, e, c.want)
		}
	}
}

// What is left is each call's own.
func TestLeftAgain(t *testing.T) {
	states, entries := steps(put(0, 1, 0))
	x := table(t, laid(states, entries, 9))
	for range 3 {
		b := line.New(4, 5)
		if n, e := x.Run(b, 3); n != 3 || e != api.OK || !slices.Equal(idsOf(b), []int{4, 9, 5, 9, 9}) {
			t.Error("a run again", idsOf(b), n, e)
		}
	}
	var zero line.Line
	if n, e := x.Run(&zero, 0); n != 0 || e != api.ErrBudget || zero.Len() != 0 {
		t.Error("the zero Line, with nothing left", n, e)
	}
	if n, e := x.Run(&zero, 1); n != 1 || e != api.OK || !slices.Equal(zero.Glyphs(), []api.Glyph{{ID: 9}}) {
		t.Error("the zero Line", zero.Glyphs(), n, e)
	}
}

// What was put ahead of the machine's error stays, and is told.
func TestBudget(t *testing.T) {
	for _, c := range []struct {
		what string
		n    int
		want []int
		l    []api.Entry
	}{
		{"rests without an end", 3, []int{4, 100, 101, 5, 102}, []api.Entry{put(0, 2, 0), put(stay, 1, 2), nothing(stay)}},
		{"rests that each put one", 65, slices.Concat([]int{4}, slices.Repeat([]int{100}, 65), []int{5}), []api.Entry{put(stay, 1, 0)}},
		{"rests that each put one ahead", 65, slices.Concat(slices.Repeat([]int{100}, 65), []int{4, 5}), []api.Entry{put(stay|before, 1, 0)}},
		{"rests at the end", 65, slices.Concat([]int{4, 5}, slices.Repeat([]int{100}, 65)), []api.Entry{nothing(0), nothing(0), put(stay, 1, 0)}},
	} {
		states, entries := steps(c.l...)
		b := line.New(4, 5)
		if n, e := table(t, laid(states, entries, hundreds()...)).Run(b, plenty); n != c.n || e != api.ErrBudget || !slices.Equal(idsOf(b), c.want) {
			t.Errorf("%s: %v, %v, %v, not %v", c.what, idsOf(b), n, e, c.want)
		}
	}
	// a rest at what was put ahead, and no rest there, in turn: of two glyphs 132 steps, 66 of which put one
	rows := [][]int{slices.Repeat([]int{0}, classes), slices.Repeat([]int{1}, classes)}
	entries := []api.Entry{put(stay|before, 2, 0), nothing(0)}
	entries[0].Next = 1
	b := line.New(4, 5)
	want := slices.Concat(slices.Repeat([]int{100}, 66), slices.Repeat([]int{101}, 66), []int{4, 5})
	if n, e := table(t, laid(rows, entries, hundreds()...)).Run(b, plenty); n != 132 || e != api.ErrBudget || !slices.Equal(idsOf(b), want) {
		t.Error("too many steps", idsOf(b), n, e)
	}
}

func TestLongLine(t *testing.T) {
	const n = 65536
	states, entries := steps(put(0, 2, 0))
	b := line.New(slices.Repeat([]int{4}, n)...)
	if put, e := table(t, laid(states, entries, 8, 9)).Run(b, math.MaxInt); put != 2*n+2 || e != api.OK {
		t.Fatal("a long line", put, e)
	}
	for i, g := range b.Glyphs() {
		want := api.Glyph{ID: 4, Cluster: i / 3}
		if i%3 > 0 {
			want = api.Glyph{ID: 7 + i%3, Cluster: min(i/3+1, n-1)}
		}
		if i >= 3*n {
			want = api.Glyph{ID: 8 + i%3, Cluster: n - 1}
		}
		if g != want {
			t.Fatalf("a long line: the glyph %d is %v, not %v", i, g, want)
		}
	}
}

// modelled: what a model of a run has; glyphs are told apart by where they are kept.
type modelled struct {
	states  [][]int
	entries []api.Entry
	list    []int
	l       []*api.Glyph
	left, n int
	over    bool
}

// insert: glyphs ahead of a place, which is told from the line's beginning on; the first one of them.
func (m *modelled) insert(at, n, from int) *api.Glyph {
	if n == 0 || from == none || m.over {
		return nil
	}
	if m.n+n > m.left {
		m.over = true
		return nil
	}
	cluster := 0
	if at < len(m.l) {
		cluster = m.l[at].Cluster
	} else if at > 0 {
		cluster = m.l[at-1].Cluster
	}
	var put []*api.Glyph
	for _, id := range m.list[from : from+n] {
		put = append(put, &api.Glyph{ID: id, Cluster: cluster})
	}
	m.l = slices.Concat(m.l[:at], put, m.l[at:])
	m.n += n
	return put[0]
}

// run: a run, word by word as the document says, of glyphs that have their own classes.
func (m *modelled) run() api.Errno {
	now, rests := 0, 0
	var own, marked *api.Glyph
	if len(m.l) > 0 {
		own = m.l[0]
	}
	for range 2*len(m.l) + 128 {
		class := 0
		if own != nil && own.ID != ended {
			class = 1
			if id := own.ID; id == gone {
				class = 2
			} else if 4 <= id && id < classes {
				class = id
			}
		}
		e := m.entries[m.states[now][class]]
		if marked != nil {
			at := slices.Index(m.l, marked)
			if e.Flags>>10&1 == 0 {
				at++
			}
			m.insert(at, e.Flags%32, e.B)
		}
		first := own
		behind := 1
		switch count := e.Flags / 32 % 32; {
		case own == nil:
			first = m.insert(len(m.l), count, e.A)
		case e.Flags>>11&1 == 1:
			if put := m.insert(slices.Index(m.l, own), count, e.A); put != nil {
				first = put
			}
		default:
			if m.insert(slices.Index(m.l, own)+1, count, e.A) != nil {
				behind += count
			}
		}
		if m.over {
			return api.ErrBudget
		}
		if e.Flags>>15&1 == 1 && own != nil {
			marked = own
		}
		now = e.Next
		if e.Flags>>14&1 == 1 {
			if rests++; rests > 64 {
				return api.ErrBudget
			}
			own = first
			continue
		}
		if own == nil {
			return api.OK
		}
		rests = 0
		if at := slices.Index(m.l, own) + behind; at < len(m.l) {
			own = m.l[at]
		} else {
			own = nil
		}
	}
	return api.ErrBudget
}

// some: a subtable's bytes, and a model of it.
func some(r *rand.Rand) ([]byte, *modelled) {
	m := &modelled{states: make([][]int, 2+r.Intn(4)), entries: make([]api.Entry, 1+r.Intn(8)), list: make([]int, 10)}
	for i := range m.list {
		m.list[i] = []int{r.Intn(9), 4 + r.Intn(4), 10 + i, gone}[r.Intn(4)]
	}
	for i := range m.states {
		m.states[i] = make([]int, classes)
		for c := range m.states[i] {
			m.states[i][c] = r.Intn(len(m.entries))
		}
	}
	which := func() int { return []int{none, r.Intn(8)}[r.Intn(2)] }
	for i := range m.entries {
		e := api.Entry{Next: r.Intn(len(m.states)), Flags: r.Intn(65536) &^ (31<<5 | 31), A: which(), B: which()}
		e.Flags |= r.Intn(3)<<5 | r.Intn(3)
		if r.Intn(3) > 0 {
			e.Flags &^= stay
		}
		m.entries[i] = e
	}
	return laid(m.states, m.entries, m.list...), m
}

func TestAnyRuns(t *testing.T) {
	r := rand.New(rand.NewSource(18))
	fine, not, changed, over := 0, 0, 0, 0
	for range 20000 {
		b, m := some(r)
		var l, want []api.Glyph
		for range r.Intn(12) {
			l = append(l, api.Glyph{ID: []int{r.Intn(10), 4 + r.Intn(4), gone}[r.Intn(3)], Cluster: r.Intn(9)})
		}
		for _, g := range l {
			m.l = append(m.l, &g)
		}
		m.left = []int{plenty, r.Intn(20)}[r.Intn(2)]
		fault := m.run()
		for _, g := range m.l {
			want = append(want, *g)
		}
		x := line.Of(l)
		if n, e := table(t, b).Run(x, m.left); n != m.n || e != fault || !slices.Equal(x.Glyphs(), want) {
			t.Fatalf("a run of %v, %v along %v, with %d left: %v, %v, %v, not %v, %v, %v", m.states, m.entries, l, m.left, x.Glyphs(), n, e, want, m.n, fault)
		}
		switch {
		case fault == api.OK:
			fine++
		case m.over:
			over++
		default:
			not++
		}
		if m.n > 0 {
			changed++
		}
	}
	if fine < 3000 || not < 3000 || over < 1000 || changed < 10000 {
		t.Error("too few runs came to their ends, or none, or put glyphs", fine, not, over, changed)
	}
}

// P1: whatever bytes there are, Read ends, and so does a run of what it answers.
func TestAnyBytes(t *testing.T) {
	r := rand.New(rand.NewSource(118))
	read := 0
	for range 50000 {
		b, _ := some(r)
		for range 1 + r.Intn(3) {
			b[r.Intn(len(b))] = byte([]int{r.Intn(256), r.Intn(9), 0, 0xFF}[r.Intn(4)])
		}
		x, e := ins.Read(b, 1+r.Intn(12))
		if (x == nil) != (e != api.OK) || e != api.OK && e != api.ErrForm {
			t.Fatalf("Read of %x: %v, %v", b, x, e)
		}
		if e == api.OK {
			read++
			left := r.Intn(1000) - 100
			l := line.New(r.Intn(9), r.Intn(9), gone, -1)
			n, e := x.Run(l, left)
			if e != api.OK && e != api.ErrBudget || n < 0 || n > max(left, 0) || l.Len() != 4+n {
				t.Fatalf("Run of %x: %v, %v", b, n, e)
			}
		}
	}
	if read < 3000 {
		t.Error("too few subtables were read", read)
	}
}
