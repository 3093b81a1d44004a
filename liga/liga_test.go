package liga_test

import (
	"bytes"
	"encoding/binary"
	"math"
	"math/rand"
	"slices"
	"testing"

	"swash/api"
	"swash/liga"
	"swash/line"
	"swash/view"
)

const (
	push    = 0x8000
	stay    = 0x4000
	perform = 0x2000
	last    = 0x80000000
	store   = 0x40000000
	gone    = api.Deleted
	classes = 8 // of the glyphs 4 to 7, which have these as classes
	fits    = 9 // glyphs of the tests' font
	ended   = 3 // a glyph that has the class of the line's end, 0
	head    = 28
)

// words, longs: each one's two, or four, bytes.
func words(l ...int) []byte {
	var b []byte
	for _, n := range l {
		b = binary.BigEndian.AppendUint16(b, uint16(n))
	}
	return b
}

func longs(l ...int) []byte {
	var b []byte
	for _, n := range l {
		b = binary.BigEndian.AppendUint32(b, uint32(n))
	}
	return b
}

// parts: what a subtable has beside its machine.
type parts struct{ actions, components, ligatures []int }

// machine: a machine's bytes, and where its lookup, its states and its entries stand in them.
func machine(states [][]int, entries []api.Entry) (b []byte, at [3]int) {
	of := words(8, ended, 5, 0, 4, 5, 6, 7)
	at[0] = head
	at[1] = at[0] + len(of)
	at[2] = at[1] + 2*classes*len(states)
	b = slices.Concat(longs(classes, at[0], at[1], at[2], 0, 0, 0), of)
	for _, s := range states {
		b = append(b, words(s...)...)
	}
	for _, e := range entries {
		b = append(b, words(e.Next, e.Flags, e.A)...)
	}
	return b, at
}

// laid: a subtable's bytes: the machine, and behind it the parts in an order of the letters a, c and l.
func laid(order string, states [][]int, entries []api.Entry, p parts) []byte {
	b, _ := machine(states, entries)
	for _, part := range order {
		at, what := 16, longs(p.actions...)
		switch part {
		case 'c':
			at, what = 20, words(p.components...)
		case 'l':
			at, what = 24, words(p.ligatures...)
		}
		binary.BigEndian.PutUint32(b[at:], uint32(len(b)))
		b = append(b, what...)
	}
	return b
}

// steps: a machine that does an entry for each of its steps, whatever the glyphs; the last one again for all behind.
func steps(entries ...api.Entry) ([][]int, []api.Entry) {
	var states [][]int
	out := slices.Clone(entries)
	for i := range out {
		states = append(states, slices.Repeat([]int{i}, classes))
		out[i].Next = min(i+1, len(out)-1)
	}
	if len(states) < 2 {
		states = append(states, make([]int, classes))
	}
	return states, out
}

// is: an entry of flags, and of the number of an action.
func is(flags, a int) api.Entry { return api.Entry{Flags: flags, A: a} }

// table: the subtable that bytes begin with.
func table(t *testing.T, b []byte) *liga.Table {
	t.Helper()
	x, e := liga.Read(b, fits)
	if e != api.OK || x == nil {
		t.Fatal("a test's subtable:", e)
	}
	return x
}

func idsOf(b *line.Line) []int {
	var l []int
	for _, g := range b.Glyphs() {
		l = append(l, g.ID)
	}
	return l
}

// ran: of some glyphs, steps of some entries, and some parts, others come; components end at the bytes' end, or ligatures do.
func ran(t *testing.T, what string, ids, want []int, p parts, entries ...api.Entry) {
	t.Helper()
	states, all := steps(entries...)
	for _, order := range []string{"alc", "acl"} {
		b := line.New(ids...)
		if e := table(t, laid(order, states, all, p)).Run(b); e != api.OK || !slices.Equal(idsOf(b), want) {
			t.Errorf("%s: %v, %v, not %v", what, idsOf(b), e, want)
		}
	}
}

func taken(t *testing.T, what string, b []byte, glyphs int) {
	t.Helper()
	if x, e := liga.Read(b, glyphs); x == nil || e != api.OK {
		t.Errorf("Read of %s: %v, %v", what, x, e)
	}
	var x *liga.Table
	if !view.Try(func() { x = liga.Take(view.Of(b), glyphs) }) || x == nil {
		t.Errorf("Take of %s throws", what)
	}
}

func refused(t *testing.T, what string, b []byte, glyphs int) {
	t.Helper()
	if x, e := liga.Read(b, glyphs); x != nil || e != api.ErrForm {
		t.Errorf("Read of %s: %v, %v", what, x, e)
	}
	if view.Try(func() { liga.Take(view.Of(b), glyphs) }) {
		t.Errorf("Take of %s doesn't throw", what)
	}
}

func TestConstants(t *testing.T) {
	if liga.Push != push || liga.Perform != perform || liga.Last != last || liga.Store != store || liga.Depth != 64 {
		t.Error("constants", liga.Push, liga.Perform, liga.Last, liga.Store, liga.Depth)
	}
}

// P17.1

// pair: the document's example, at the glyphs' own numbers: two glyphs become one.
func pair() ([][]int, []api.Entry, parts) {
	states, entries := steps(is(push, 0), is(push|perform, 0), is(0, 0))
	return states, entries, parts{[]int{0, last}, []int{0, 1}, []int{8, 9}}
}

// plain: the document's example, whose actions stand behind all.
func plain() []byte {
	states, entries, p := pair()
	return laid("cla", states, entries, p)
}

// Each byte up to the last action's last one is needed, and none behind.
func TestReadOfPieces(t *testing.T) {
	b := plain()
	taken(t, "all bytes", b, fits)
	for n := range len(b) {
		refused(t, "less than all bytes", b[:n], fits)
	}
	for _, more := range [][]byte{{0}, {0xFF, 0xFF}, make([]byte, 100)} {
		taken(t, "more bytes", slices.Concat(b, more), fits)
	}
}

func TestReadOfNoMachine(t *testing.T) {
	states, entries, p := pair()
	_, at := machine(states, entries)
	for _, c := range []struct {
		what    string
		at, num int
	}{
		{"too few classes", 2, 3}, {"too many classes", 0, 1}, {"a machine's lookup behind the bytes", 6, 0x7FFF}, {"a machine without a lookup", at[0], 3},
		{"states behind the bytes", 10, 0x7FFF}, {"entries behind the bytes", 14, 0x7FFF}, {"an entry that isn't there", at[1], 0x7FFF}, {"a state that isn't there", at[2], 0x7FFF},
	} {
		b := laid("acl", states, entries, p)
		taken(t, "a subtable that is one", b, fits)
		binary.BigEndian.PutUint16(b[c.at:], uint16(c.num))
		refused(t, c.what, b, fits)
	}
}

// All three are places within the bytes, or at their end, also where nobody asks for what stands there.
func TestPlaces(t *testing.T) {
	states, entries := steps(is(push, 7), is(0, 9))
	b, _ := machine(states, entries)
	for _, of := range []int{16, 20, 24} {
		for _, at := range []int{0, 1, 27, len(b) - 3, len(b) - 1, len(b)} {
			binary.BigEndian.PutUint32(b[of:], uint32(at))
			taken(t, "places within", b, fits)
		}
		for _, at := range []int{len(b) + 1, len(b) + 2, 1 << 16, 1 << 31, 1<<32 - 1} {
			binary.BigEndian.PutUint32(b[of:], uint32(at))
			refused(t, "a place behind the bytes", b, fits)
		}
		binary.BigEndian.PutUint32(b[of:], 0)
	}
}

// The shortest of all: its entries, its states and its lookup stand upon its own beginning.
func TestShortest(t *testing.T) {
	b := longs(4, 12, 12, 0, 0, 0, 0)
	taken(t, "the shortest", b, 1)
	for n := range head {
		refused(t, "less than the shortest", b[:n], 1)
	}
}

// The actions go on up to a last one; which are asked for hangs on the flag Perform alone.
func TestWhichActions(t *testing.T) {
	for _, c := range []struct {
		what    string
		good    bool
		actions []int
		l       []api.Entry
	}{
		{"no actions", true, nil, []api.Entry{is(push, 0), is(0xDFFF, 9)}},
		{"none is there", false, nil, []api.Entry{is(perform, 0)}},
		{"one", true, []int{last}, []api.Entry{is(perform, 0)}},
		{"one that isn't the last", false, []int{store}, []api.Entry{is(perform, 0)}},
		{"one whose number is all bits but the last", false, []int{0x7FFFFFFF}, []api.Entry{is(perform, 0)}},
		{"several", true, []int{0, 0, store, 5, last | store}, []api.Entry{is(perform, 0)}},
		{"several, and no last one", false, []int{0, 0, store, 5, store}, []api.Entry{is(perform, 0)}},
		{"one behind others", true, []int{0, 0, 0, last}, []api.Entry{is(perform, 3)}},
		{"one behind the last one", false, []int{0, 0, 0, last}, []api.Entry{is(perform, 4)}},
		{"one behind the last one, asked for without the flag", true, []int{0, 0, 0, last}, []api.Entry{is(perform, 0), is(push, 4)}},
		{"none of which the first one is the last", true, []int{last, 0}, []api.Entry{is(perform, 0)}},
		{"one behind the last one, without a last one itself", false, []int{last, 0}, []api.Entry{is(perform, 0), is(perform, 1)}},
		{"two rows", true, []int{0, last, 0, last}, []api.Entry{is(perform, 0), is(perform, 2)}},
		{"two rows, the other way round", true, []int{0, last, 0, last}, []api.Entry{is(perform, 2), is(perform, 0)}},
		{"two rows, the second one without a last one", false, []int{0, last, 0, 0}, []api.Entry{is(perform, 2), is(perform, 0)}},
		{"a row within a row", true, []int{0, 0, 0, last}, []api.Entry{is(perform, 2), is(perform, 0), is(perform, 3), is(perform, 1)}},
		{"a row within a row, and one behind", false, []int{0, 0, 0, last}, []api.Entry{is(perform, 2), is(perform, 0), is(perform, 4)}},
		{"a great number", false, []int{0, 0, 0, last}, []api.Entry{is(perform, 65535)}},
	} {
		states, entries := steps(c.l...)
		b := laid("cla", states, entries, parts{actions: c.actions})
		for _, more := range [][]byte{nil, {0xFF}, {0xFF, 0xFF, 0xFF}} { // fewer bytes than an action's are none
			if all := slices.Concat(b, more); c.good {
				taken(t, c.what, all, fits)
			} else {
				refused(t, c.what, all, fits)
			}
		}
	}
}

// An entry to which no state leads counts, if there is one behind it; behind the last one that there is nothing counts.
func TestEntriesThatCount(t *testing.T) {
	states := [][]int{slices.Repeat([]int{0}, classes), slices.Repeat([]int{2}, classes)}
	entries := []api.Entry{{}, {Flags: perform, A: 1}, {}}
	taken(t, "two actions", laid("cla", states, entries, parts{actions: []int{0, last}}), fits)
	refused(t, "one action", laid("cla", states, entries, parts{actions: []int{last}}), fits)
	entries = []api.Entry{{}, {}, {}, {Flags: perform, A: 1}}
	taken(t, "an entry behind all", laid("cla", states, entries, parts{actions: []int{0}}), fits)
}

// Many entries that all ask for one long row of actions are looked at in no time.
func TestManyEntriesOfOneRow(t *testing.T) {
	const n, row = 65535, 1 << 22
	states := [][]int{slices.Repeat([]int{0}, classes), slices.Repeat([]int{n - 1}, classes)}
	entries := make([]api.Entry, n)
	for i := range entries {
		entries[i] = is(perform, n-i)
	}
	b := laid("cla", states, entries, parts{actions: append(make([]int, row), last)})
	taken(t, "many entries", b, fits)
	refused(t, "many entries, and no last action", b[:len(b)-1], fits)
}

// The parts may stand anywhere, at odd places, too, and upon one another.
func TestPlacesOfParts(t *testing.T) {
	states, entries, p := pair()
	_, at := machine(states, entries)
	whole := laid("acl", states, entries, p)
	for n := range 5 {
		odd := slices.Repeat([]byte{0xFE}, n)
		parts := [][]byte{longs(p.actions...), words(p.ligatures...), words(p.components...)}
		var places [3]int
		more := slices.Clone(odd)
		for i, part := range parts {
			places[i] = head + len(more)
			more = slices.Concat(more, part, odd)
		}
		b := slices.Concat(whole[:head], more, whole[head:])
		for i, place := range at {
			binary.BigEndian.PutUint32(b[4+4*i:], uint32(place+len(more)))
		}
		for i, of := range []int{16, 24, 20} {
			binary.BigEndian.PutUint32(b[of:], uint32(places[i]))
		}
		x := line.New(0, 1)
		if e := table(t, b).Run(x); e != api.OK || !slices.Equal(idsOf(x), []int{9, gone}) {
			t.Errorf("parts with %d bytes between: %v, %v", n, x.Glyphs(), e)
		}
	}
	// components and ligatures that are one
	b := slices.Clone(whole)
	copy(b[24:28], b[20:24])
	x := line.New(0, 1)
	if e := table(t, b).Run(x); e != api.OK || !slices.Equal(idsOf(x), []int{1, gone}) {
		t.Error("components that are ligatures", x.Glyphs(), e)
	}
}

// A lookup of a number for each glyph has as many as the font has glyphs.
func TestGlyphsOfTheFont(t *testing.T) {
	b := plain()
	binary.BigEndian.PutUint32(b[4:], uint32(len(b)))
	b = append(b, words(0, 1, 2, 3, 4, 5)...)
	for glyphs := 1; glyphs < 9; glyphs++ {
		if glyphs <= 5 {
			taken(t, "a lookup of five glyphs", b, glyphs)
		} else {
			refused(t, "a lookup of five glyphs", b, glyphs)
		}
	}
}

// P17.2

func TestReadOfWrongArguments(t *testing.T) {
	for _, glyphs := range []int{0, -1, -65535, 65536, 1<<32 + 1, math.MinInt, math.MaxInt} {
		for _, b := range [][]byte{plain(), nil, {1}} {
			if x, e := liga.Read(b, glyphs); x != nil || e != api.ErrArg {
				t.Errorf("Read of %d bytes, %d glyphs: %v, %v", len(b), glyphs, x, e)
			}
		}
	}
	for _, glyphs := range []int{1, 2, fits, 65534, 65535} {
		taken(t, "a number of glyphs that may be", plain(), glyphs)
		refused(t, "no bytes", nil, glyphs)
	}
}

func TestTake(t *testing.T) {
	b := plain()
	v := view.Of(slices.Concat([]byte{1, 2, 3}, b))
	var x *liga.Table
	if !view.Try(func() { x = liga.Take(v.Rest(3), fits) }) || x == nil {
		t.Fatal("Take throws")
	}
	y := line.New(0, 1, 0)
	if e := x.Run(y); e != api.OK || !slices.Equal(idsOf(y), []int{9, gone, 0}) {
		t.Error("Run", y.Glyphs(), e)
	}
	if view.Try(func() { liga.Take(v, fits) }) || view.Try(func() { liga.Take(view.View{}, fits) }) {
		t.Error("Take of no subtable doesn't throw")
	}
}

// The font's bytes aren't changed, and Read doesn't keep them.
func TestBytesAreNotKept(t *testing.T) {
	b := plain()
	was := bytes.Clone(b)
	x := table(t, b)
	x.Run(line.New(0, 1))
	liga.Take(view.Of(b), fits).Run(line.New(0, 1))
	if !bytes.Equal(b, was) {
		t.Errorf("the bytes were changed: %x", b)
	}
	for _, n := range []byte{0, 0xFF} {
		for i := range b {
			b[i] = n
		}
		l := line.New(0, 1)
		if e := x.Run(l); e != api.OK || !slices.Equal(idsOf(l), []int{9, gone}) {
			t.Error("Run behind a change of the bytes", l.Glyphs(), e)
		}
	}
}

// P17.3

func TestExample(t *testing.T) {
	b := line.New(0, 1)
	if e := table(t, plain()).Run(b); e != api.OK || !slices.Equal(b.Glyphs(), []api.Glyph{{ID: 9, Cluster: 0}, {ID: gone, Cluster: 1}}) {
		t.Error("the document's example", b.Glyphs(), e)
	}
}

// nothing: an entry that does nothing.
var nothing = is(0, 0)

// digits: components that are the numbers of their glyphs, and ligatures that are 100 more than their number.
func digits(actions ...int) parts {
	p := parts{actions: actions}
	for i := range 100 {
		p.components = append(p.components, i)
		p.ligatures = append(p.ligatures, i+100)
	}
	return p
}

func TestLigatures(t *testing.T) {
	p := digits(0, last)
	ids := []int{4, 5, 6, 7}
	ran(t, "all pushed, none performed", ids, ids, p, is(push, 0))
	ran(t, "performed, none pushed", ids, ids, p, is(perform, 0))
	ran(t, "two", ids, []int{109, gone, 6, 7}, p, is(push, 0), is(push|perform, 0), nothing)
	ran(t, "two later", ids, []int{4, 5, 113, gone}, p, nothing, nothing, is(push, 0), is(push|perform, 0), nothing)
	ran(t, "two that stand apart", ids, []int{110, 5, gone, 7}, p, is(push, 0), nothing, is(push|perform, 0), nothing)
	ran(t, "two, performed behind them", ids, []int{109, gone, 6, 7}, p, is(push, 0), is(push, 0), nothing, is(perform, 0), nothing)
	ran(t, "two, performed at the end", ids, []int{4, 5, 113, gone}, p, is(push, 0), is(push, 0), is(push, 0), is(push, 0), is(perform, 0))
	ran(t, "two, twice", ids, []int{109, gone, 113, gone}, p, is(push, 0), is(push|perform, 0), is(push, 0), is(push|perform, 0), nothing)
	ran(t, "three", ids, []int{115, gone, gone, 7}, digits(0, 0, last), is(push, 0), is(push, 0), is(push|perform, 0), nothing)
	ran(t, "one by itself", ids, []int{4, 105, 6, 7}, digits(last), nothing, is(push|perform, 0), nothing)
	ran(t, "each by itself", ids, []int{104, 105, 106, 107}, digits(last), is(push|perform, 0))
	ran(t, "actions from one on", ids, []int{4, 111, gone, 7}, digits(0, 0, 0, 0, last), is(push, 0), is(push, 0), is(push|perform, 3), nothing)
	ran(t, "the last action alone", ids, []int{4, 5, 106, 7}, digits(0, 0, 0, 0, last), is(push, 0), is(push, 0), is(push|perform, 4), nothing)
	ran(t, "flags that say nothing", ids, ids, p, is(0x1FFF, 0), is(0x1FFF, 1))
	ran(t, "flags that say nothing beside those that do", ids, []int{109, gone, 6, 7}, p, is(push|0x1FFF, 0), is(push|perform|0x1FFF, 0), nothing)
	ran(t, "no glyphs", nil, nil, p, is(push|perform, 0))
	// a ligature is deleted itself, or a glyph that stood there
	ran(t, "a ligature that is none", ids, []int{gone, gone, 6, 7}, parts{[]int{0, last}, make([]int, 9), []int{gone}}, is(push, 0), is(push|perform, 0), nothing)
}

func TestPush(t *testing.T) {
	p := digits(0, last, last)
	ids := []int{4, 5, 6}
	ran(t, "the line's end isn't kept", []int{4}, []int{104}, p, is(push, 0), is(push|perform, 2))
	ran(t, "one place twice, by a rest", ids, ids, p, is(push|stay, 0), is(push, 0), is(perform, 0), nothing)
	ran(t, "one place, and then another one twice", ids, []int{109, gone, 6}, p, is(push, 0), is(push|stay, 0), is(push|perform, 0), nothing)
	ran(t, "one place again, as it isn't kept any more", ids, []int{4, 105, 6}, p, nothing, is(push|perform|stay, 0), is(push, 0), is(perform, 2), nothing)
	more := digits(0, 0, last)
	more.components = append(more.components, 0, 0, 0, 0, 0)
	ran(t, "one place again, which is kept as a ligature's", []int{4, 1}, []int{104, 1}, more, is(push|perform|stay, 2), is(push, 0), is(push|perform, 0), nothing)
}

// Of more than 64 places that are kept the first ones aren't any more.
func TestDepth(t *testing.T) {
	for _, c := range []struct {
		n, parts int
		kept     bool
	}{{63, 63, true}, {63, 64, false}, {64, 64, true}, {64, 65, false}, {65, 63, true}, {65, 64, true}, {65, 65, false}, {66, 64, true}, {66, 65, false}, {200, 64, true}, {200, 65, false}, {200, 2, true}} {
		ids := slices.Repeat([]int{1}, c.n)
		want := slices.Clone(ids)
		if c.kept {
			at := c.n - c.parts
			for i := at; i < c.n; i++ {
				want[i] = gone
			}
			want[at] = 100 + c.parts
		}
		l := append(slices.Repeat([]api.Entry{is(push, 0)}, c.n), is(perform, 0))
		p := digits(append(make([]int, c.parts-1), last)...)
		ran(t, "many places", ids, want, p, l...)
	}
	// a ligature's place is kept as any other one
	for _, more := range []int{1, 62, 63, 64} {
		ids := slices.Repeat([]int{1}, 2+more)
		want := slices.Clone(ids)
		want[0], want[1] = 102, gone
		if more < 64 {
			want = slices.Repeat([]int{gone}, 2+more)
			want[0] = 101 + more
		}
		p := digits(slices.Concat([]int{0, last}, make([]int, more), []int{last | below(101)})...)
		l := slices.Concat([]api.Entry{is(push, 0), is(push|perform, 0)}, slices.Repeat([]api.Entry{is(push, 0)}, more), []api.Entry{is(perform, 2)})
		ran(t, "a ligature, and many more", ids, want, p, l...)
	}
}

// below: an action's number that is so far below nought.
func below(n int) int { return 1<<30 - n }

func TestNumbers(t *testing.T) {
	ids := []int{4, 5, 6}
	for _, c := range []struct{ number, id int }{{0, 5}, {1, 6}, {6, 11}, {below(1), 4}, {below(5), 0}} {
		p := parts{[]int{last | c.number}, slices.Repeat([]int{9}, 12), slices.Repeat([]int{8}, 10)}
		p.components[c.id], p.ligatures[0] = 0, 33
		ran(t, "a number", ids, []int{4, 33, 6}, p, nothing, is(push|perform, 0), nothing)
	}
	p := parts{components: make([]int, 12), ligatures: []int{33}}
	for _, n := range []int{30, 100, 1<<29 - 1, below(6), below(7), below(100), 1 << 29, 1<<29 + 1} {
		p.actions = []int{last | n}
		ran(t, "a number of no component", ids, ids, p, nothing, is(push|perform, 0), nothing)
	}
	// a component's number is its glyph's and the action's together, whatever they are by themselves
	for _, c := range []struct{ id, number, want int }{
		{-1, 1, 33}, {-1, 0, -1}, {-1 << 29, 1<<29 - 1, -1 << 29}, {1 - 1<<29, 1<<29 - 1, 33}, {1 << 29, below(1 << 29), 33}, {1<<29 - 1, below(1 << 29), 1<<29 - 1}, {gone, below(gone), 33}, {gone, 0, gone},
		{math.MaxInt, 1, math.MaxInt}, {math.MaxInt, 1<<29 - 1, math.MaxInt}, {math.MinInt, below(1), math.MinInt}, {math.MinInt, below(1 << 29), math.MinInt}, {1 << 62, 0, 1 << 62}, {1 << 63 >> 1, 1, 1 << 62}, {math.MinInt, 0, math.MinInt},
	} {
		p.actions = []int{last | c.number}
		ran(t, "a number, and any glyph", []int{c.id}, []int{c.want}, p, is(push|perform, 0), nothing)
	}
}

// The last components, and ligatures, are those behind which no two bytes are left.
func TestLastOfParts(t *testing.T) {
	states, entries := steps(is(push|perform, 0), nothing)
	for _, more := range [][]byte{nil, {0}} {
		for id, want := range []int{100, 101, 102, 3, 4, 5} {
			// of as many components as ligatures each gives its own number
			p := parts{[]int{last}, []int{0, 1, 2}, []int{100, 101, 102, 103, 104, 105, 106}}
			b := line.New(id)
			if e := table(t, append(laid("alc", states, entries, p), more...)).Run(b); e != api.OK || !slices.Equal(idsOf(b), []int{want}) {
				t.Error("three components", id, idsOf(b), e)
			}
			p = parts{[]int{last}, []int{0, 1, 2, 3, 4, 5, 6}, []int{100, 101, 102}}
			b = line.New(id)
			if e := table(t, append(laid("acl", states, entries, p), more...)).Run(b); e != api.OK || !slices.Equal(idsOf(b), []int{want}) {
				t.Error("three ligatures", id, idsOf(b), e)
			}
		}
	}
	// at the bytes' end there is none
	for _, order := range []string{"alc", "acl"} {
		for _, more := range [][]byte{nil, {0}} {
			b := line.New(0)
			if e := table(t, append(laid(order, states, entries, parts{actions: []int{last}}), more...)).Run(b); e != api.OK || !slices.Equal(idsOf(b), []int{0}) {
				t.Error("no components, and no ligatures", idsOf(b), e)
			}
			// one of both is there
			p := parts{[]int{last}, nil, []int{8}}
			if order == "acl" {
				p = parts{[]int{last}, []int{0}, nil}
			}
			b = line.New(0)
			if e := table(t, append(laid(order, states, entries, p), more...)).Run(b); e != api.OK || !slices.Equal(idsOf(b), []int{0}) {
				t.Error("no components, or no ligatures", order, idsOf(b), e)
			}
		}
	}
}

// The sum is of all components of a row of actions, and nought as the next one begins.
func TestSums(t *testing.T) {
	ids := []int{4, 5, 6, 7}
	p := parts{[]int{0, 0, last}, []int{0, 0, 0, 0, 30000, 40000, 50000, 65535}, make([]int, 200000)}
	for n, want := range map[int]int{30000: 11, 40000: 12, 90000: 13, 120000: 14, 65535: 15, 155535: 16} {
		p.ligatures[n] = want
	}
	ran(t, "a great sum", ids, []int{14, gone, gone, 7}, p, is(push, 0), is(push, 0), is(push|perform, 0), nothing)
	ran(t, "a greater sum", ids, []int{4, 16, gone, gone}, p, nothing, is(push, 0), is(push, 0), is(push|perform, 0), nothing)
	ran(t, "sums that begin at nought", ids, []int{11, 12, 6, 15}, p, is(push|perform, 2), is(push|perform, 2), nothing, is(push|perform, 2), nothing)
	ran(t, "a sum of a row that came to nothing", ids, []int{11, 5, 6, 7}, p, is(push|perform|stay, 0), is(push|perform, 2), nothing)
}

// A ligature that is stored goes on as a part; the sum goes on, too.
func TestStore(t *testing.T) {
	ids := []int{4, 5, 6, 7}
	l := []api.Entry{is(push, 0), is(push, 0), is(push|perform, 0), nothing}
	ran(t, "the last one of two", ids, []int{4, 5, 106, 7}, digits(store, 0, 0, 0, last), l...)
	ran(t, "the middle one", ids, []int{4, 111, gone, 7}, digits(0, store, 0, 0, last), l...)
	ran(t, "the first one", ids, []int{115, gone, gone, 7}, digits(0, 0, store, 0, last), l...)
	ran(t, "each, and no last one", ids, []int{115, gone, gone, 7}, digits(store, store, store, store, last), l...)
	ran(t, "one, and the last one", ids, []int{4, 111, gone, 7}, digits(store, last), l...)
	ran(t, "one between, and the last one", ids, []int{115, gone, gone, 7}, digits(0, store, last), l...)
	ran(t, "the last one, stored", ids, []int{4, 111, gone, 7}, digits(0, last|store), l...)
	ran(t, "stored with a number", ids, []int{4, 112, gone, 7}, digits(store|2, last|below(1)), l...)
}

// Where a row of actions ends ahead of its last one, what was done stays, and its places aren't kept any more.
func TestEndsOfRows(t *testing.T) {
	ids := []int{4, 5, 6, 7}
	const far = 1 << 20
	three := func(then ...api.Entry) []api.Entry {
		return append([]api.Entry{is(push, 0), is(push, 0), is(push|perform, 0)}, then...)
	}
	ran(t, "no component at first, then one", ids, []int{4, 105, 6, 7}, digits(far, last, last), three(is(perform, 1), nothing)...)
	ran(t, "no component at the second one, then one", ids, []int{104, 5, 6, 7}, digits(0, far, last), three(is(perform, 2), nothing)...)
	ran(t, "no component at the last one", ids, ids, digits(0, 0, last|far), three(is(perform, 2), nothing)...)
	ran(t, "no component at the last one, which isn't kept", []int{4, 5, 6, 7}, ids, digits(0, 0, last|far, last), three(is(perform, 3), nothing)...)
	ran(t, "a stored one, and then no component", ids, []int{4, 111, gone, 7}, digits(0, store, far, last), three(is(perform, 3), nothing)...)
	ran(t, "none kept", ids, ids, digits(0, 0, 0, last), three(is(perform, 3), nothing)...)
	few := digits(0, last, last)
	few.components[5] = 60000
	ran(t, "no ligature, then one", ids, []int{104, 5, 6, 7}, few, three(is(perform, 2), nothing)...)
	few.actions = []int{0, store, last}
	ran(t, "no ligature, of one that is stored", ids, []int{104, 5, 6, 7}, few, three(is(perform, 2), nothing)...)
}

// What a row of actions made may be a part of what the next one makes.
func TestLigaturesOfLigatures(t *testing.T) {
	p := digits(0, last)
	for i := range 100 {
		p.components = append(p.components, i)
	}
	ids := []int{4, 5, 6, 7}
	ran(t, "one with all", ids, []int{122, gone, gone, gone}, p, is(push, 0), is(push|perform, 0), is(push|perform, 0), is(push|perform, 0), nothing)
	ran(t, "two with one", ids, []int{4, 118, gone, gone}, p, is(push, 0), is(push, 0), is(push|perform, 0), is(push|perform, 0), nothing)
	ran(t, "two with one, twice", ids, []int{122, gone, gone, gone}, p, is(push, 0), is(push, 0), is(push|perform, 0), is(push|perform, 0), is(perform, 0))
}

// The ligature's cluster is the least of its parts'; those of its parts stay.
func TestClusters(t *testing.T) {
	for _, c := range []struct {
		what         string
		actions      []int
		of, ids, are [3]int // the clusters, and the glyphs and the clusters behind the run
	}{
		{"the first one's is the least", []int{0, 0, last}, [3]int{1, 2, 3}, [3]int{115, gone, gone}, [3]int{1, 2, 3}},
		{"the second one's is the least", []int{0, 0, last}, [3]int{2, 1, 3}, [3]int{115, gone, gone}, [3]int{1, 1, 3}},
		{"the last one's is the least", []int{0, 0, last}, [3]int{2, 3, -1}, [3]int{115, gone, gone}, [3]int{-1, 3, -1}},
		{"all alike", []int{0, 0, last}, [3]int{7, 7, 7}, [3]int{115, gone, gone}, [3]int{7, 7, 7}},
		{"two of three", []int{0, last}, [3]int{0, 7, 3}, [3]int{4, 111, gone}, [3]int{0, 3, 3}},
		{"one by itself", []int{last}, [3]int{0, 1, 2}, [3]int{4, 5, 106}, [3]int{0, 1, 2}},
		{"one that is stored", []int{0, store, last}, [3]int{9, 8, 7}, [3]int{115, gone, gone}, [3]int{7, 7, 7}},
		{"one that is stored, and no last one", []int{0, store, 0, last}, [3]int{9, 8, 7}, [3]int{4, 111, gone}, [3]int{9, 7, 7}},
		{"no component", []int{0, 0, last | 1<<20}, [3]int{9, 8, 7}, [3]int{4, 5, 6}, [3]int{9, 8, 7}},
	} {
		states, entries := steps(is(push, 0), is(push, 0), is(push|perform, 0), nothing)
		var l, want []api.Glyph
		for i, cluster := range c.of {
			l = append(l, api.Glyph{ID: 4 + i, Cluster: cluster})
			want = append(want, api.Glyph{ID: c.ids[i], Cluster: c.are[i]})
		}
		b := line.Of(l)
		if e := table(t, laid("acl", states, entries, digits(c.actions...))).Run(b); e != api.OK || !slices.Equal(b.Glyphs(), want) {
			t.Errorf("%s: %v, %v, not %v", c.what, b.Glyphs(), e, want)
		}
	}
}

// A machine's classes choose its entries, also that of a glyph that was deleted, or became another one.
func TestClasses(t *testing.T) {
	// the classes 4 and 5 are pushed; a 5 performs
	row := []int{0, 0, 0, 0, 1, 2, 0, 0}
	entries := []api.Entry{{}, {Flags: push}, {Flags: push | perform}}
	x := table(t, laid("acl", [][]int{row, row}, entries, digits(0, last)))
	for _, c := range []struct{ ids, want []int }{
		{[]int{4, 5}, []int{109, gone}}, {[]int{4, 6, 5}, []int{109, 6, gone}}, {[]int{5, 4}, []int{5, 4}}, {[]int{4, 5, 4, 5}, []int{109, gone, 109, gone}},
		{[]int{4, 4, 5, 5}, []int{4, 109, gone, 5}}, {[]int{4, gone, 5}, []int{109, gone, gone}}, {[]int{ended, 4, ended, 5}, []int{ended, 109, ended, gone}},
	} {
		b := line.New(c.ids...)
		if e := x.Run(b); e != api.OK || !slices.Equal(idsOf(b), c.want) {
			t.Errorf("classes of %v: %v, %v, not %v", c.ids, idsOf(b), e, c.want)
		}
	}
	// a rest at a glyph that was deleted: its class is 2
	states := [][]int{{0, 0, 0, 0, 1, 2, 0, 0}, {0, 0, 3, 0, 4, 4, 4, 4}}
	entries = []api.Entry{{}, {Flags: push}, {Next: 1, Flags: push | perform | stay}, {Flags: perform, A: 2}, {}}
	b := line.New(4, 5)
	if e := table(t, laid("acl", states, entries, parts{[]int{0, last, last | below(100)}, digits().components, digits().ligatures})).Run(b); e != api.OK || !slices.Equal(idsOf(b), []int{109, gone}) {
		t.Error("a rest at a glyph that was deleted", idsOf(b), e)
	}
}

// A run begins without places that are kept, whatever the one ahead of it kept.
func TestRunAgain(t *testing.T) {
	states, entries := steps(is(perform, 0), is(push, 0), nothing)
	x := table(t, laid("acl", states, entries, digits(last)))
	for range 3 {
		b := line.New(4, 5)
		if e := x.Run(b); e != api.OK || !slices.Equal(idsOf(b), []int{4, 5}) {
			t.Error("a run again", idsOf(b), e)
		}
	}
	var zero line.Line
	if e := x.Run(&zero); e != api.OK || zero.Len() != 0 {
		t.Error("the zero Line", zero.Glyphs(), e)
	}
}

// What was done ahead of the machine's error stays done.
func TestBudget(t *testing.T) {
	p := digits(0, last)
	for _, c := range []struct {
		what string
		want []int
		l    []api.Entry
	}{
		{"rests without an end", []int{109, gone, 6}, []api.Entry{is(push, 0), is(push|perform, 0), is(stay, 0)}},
		{"rests without an end at the beginning", []int{4, 5, 6}, []api.Entry{is(push|stay, 0)}},
		{"rests, and a ligature as the last one", []int{109, gone, 6}, append(append([]api.Entry{is(push, 0)}, slices.Repeat([]api.Entry{is(push|stay, 0)}, 64)...), is(perform|stay, 0), is(push|stay, 0))},
		{"rests, and a ligature behind the last one", []int{4, 5, 6}, append(append([]api.Entry{is(push, 0)}, slices.Repeat([]api.Entry{is(push|stay, 0)}, 65)...), is(perform|stay, 0))},
	} {
		states, entries := steps(c.l...)
		b := line.New(4, 5, 6)
		if e := table(t, laid("acl", states, entries, p)).Run(b); e != api.ErrBudget || !slices.Equal(idsOf(b), c.want) {
			t.Errorf("%s: %v, %v, not %v", c.what, idsOf(b), e, c.want)
		}
	}
}

func TestLongLine(t *testing.T) {
	const n = 65536
	row := []int{0, 0, 0, 0, 1, 2, 0, 0}
	entries := []api.Entry{{}, {Flags: push}, {Flags: push | perform}}
	b := line.New(slices.Repeat([]int{4, 5}, n/2)...)
	if e := table(t, laid("acl", [][]int{row, row}, entries, digits(0, last))).Run(b); e != api.OK {
		t.Fatal("a long line", e)
	}
	for i, g := range b.Glyphs() {
		if want := (api.Glyph{ID: []int{109, gone}[i%2], Cluster: i}); g != want {
			t.Fatalf("a long line: the glyph %d is %v, not %v", i, g, want)
		}
	}
}

// modelled: what a model of a run has.
type modelled struct {
	states  [][]int
	entries []api.Entry
	parts   parts // all numbers up to the bytes' end
	l       []api.Glyph
	kept    []int
}

// run: a run, word by word as the document says, of glyphs that have their own classes.
func (m *modelled) run() api.Errno {
	now, at, rests := 0, 0, 0
	for range 2*len(m.l) + 128 {
		class, end := 0, at >= len(m.l)
		if !end && m.l[at].ID != ended {
			class = 1
			if id := m.l[at].ID; id == gone {
				class = 2
			} else if 4 <= id && id < classes {
				class = id
			}
		}
		e := m.entries[m.states[now][class]]
		if e.Flags>>15&1 == 1 && !end && (len(m.kept) == 0 || m.kept[len(m.kept)-1] != at) {
			m.kept = append(m.kept, at)
			m.kept = m.kept[max(0, len(m.kept)-64):]
		}
		if e.Flags>>13&1 == 1 {
			m.perform(m.parts.actions[e.A:])
		}
		now = e.Next
		switch {
		case e.Flags>>14&1 == 0 && end:
			return api.OK
		case e.Flags>>14&1 == 0:
			at, rests = at+1, 0
		case rests == 64:
			return api.ErrBudget
		default:
			rests++
		}
	}
	return api.ErrBudget
}

func (m *modelled) perform(actions []int) {
	sum, goes := 0, map[int]bool{}
	for _, a := range actions {
		n := len(m.kept)
		if n == 0 {
			return
		}
		at := m.kept[n-1]
		m.kept = m.kept[: n-1 : n-1]
		which := m.l[at].ID + int(int32(uint32(a)<<2)>>2)
		if which < 0 || which >= len(m.parts.components) {
			return
		}
		sum += m.parts.components[which]
		if a>>30 > 0 {
			if sum >= len(m.parts.ligatures) {
				return
			}
			m.l[at].ID = m.parts.ligatures[sum]
			for i := range goes {
				m.l[at].Cluster = min(m.l[at].Cluster, m.l[i].Cluster)
				m.l[i].ID = gone
			}
			clear(goes)
		}
		if a>>31 == 1 {
			m.kept = append(m.kept, at)
			return
		}
		goes[at] = true
	}
}

// some: a subtable's bytes, and a model of it.
func some(r *rand.Rand) ([]byte, *modelled) {
	m := &modelled{states: make([][]int, 2+r.Intn(4)), entries: make([]api.Entry, 1+r.Intn(8))}
	p := parts{components: make([]int, 6+r.Intn(8)), ligatures: make([]int, 3+r.Intn(8))}
	for range r.Intn(8) {
		n := []int{r.Intn(3), below(1 + r.Intn(4)), r.Intn(1 << 30)}[min(2, r.Intn(12)/5)]
		p.actions = append(p.actions, n|[]int{0, 0, store, last, last | store}[r.Intn(5)])
	}
	p.actions = append(p.actions, last)
	for i := range p.components {
		p.components[i] = r.Intn(4)
	}
	for i := range p.ligatures {
		p.ligatures[i] = []int{r.Intn(9), 4 + r.Intn(4), 4 + r.Intn(4), gone}[r.Intn(4)]
	}
	for i := range m.states {
		m.states[i] = make([]int, classes)
		for c := range m.states[i] {
			m.states[i][c] = r.Intn(len(m.entries))
		}
	}
	for i := range m.entries {
		m.entries[i] = api.Entry{Next: r.Intn(len(m.states)), Flags: r.Intn(65536), A: r.Intn(len(p.actions))}
		if r.Intn(3) > 0 {
			m.entries[i].Flags &^= stay
		}
	}
	m.parts = p
	if r.Intn(2) == 0 {
		m.parts.components = slices.Concat(p.components, p.ligatures)
		return laid("acl", m.states, m.entries, p), m
	}
	m.parts.ligatures = slices.Concat(p.ligatures, p.components)
	return laid("alc", m.states, m.entries, p), m
}

func TestAnyRuns(t *testing.T) {
	r := rand.New(rand.NewSource(17))
	fine, not, changed := 0, 0, 0
	for range 20000 {
		b, m := some(r)
		l := make([]api.Glyph, r.Intn(12))
		for i := range l {
			l[i] = api.Glyph{ID: []int{r.Intn(10), 4 + r.Intn(4), 4 + r.Intn(4), gone}[r.Intn(4)], Cluster: r.Intn(9)}
		}
		m.l = slices.Clone(l)
		fault := m.run()
		x := line.Of(l)
		if e := table(t, b).Run(x); e != fault || !slices.Equal(x.Glyphs(), m.l) {
			t.Fatalf("a run of %v along %v: %v, %v, not %v", m, l, x.Glyphs(), e, fault)
		}
		if fault == api.OK {
			fine++
		} else {
			not++
		}
		if !slices.Equal(l, m.l) {
			changed++
		}
	}
	if fine < 3000 || not < 3000 || changed < 3000 {
		t.Error("too few runs came to their ends, or none, or changed glyphs", fine, not, changed)
	}
}

// P1: whatever bytes there are, Read ends, and so does a run of what it answers.
func TestAnyBytes(t *testing.T) {
	r := rand.New(rand.NewSource(117))
	read := 0
	for range 50000 {
		b, _ := some(r)
		for range 1 + r.Intn(3) {
			b[r.Intn(len(b))] = byte([]int{r.Intn(256), r.Intn(9), 0, 0xFF}[r.Intn(4)])
		}
		x, e := liga.Read(b, 1+r.Intn(12))
		if (x == nil) != (e != api.OK) || e != api.OK && e != api.ErrForm {
			t.Fatalf("Read of %x: %v, %v", b, x, e)
		}
		if e == api.OK {
			read++
			if e := x.Run(line.New(r.Intn(9), r.Intn(9), gone, -1, math.MaxInt, math.MinInt, 4, 5)); e != api.OK && e != api.ErrBudget {
				t.Fatalf("Run of %x: %v", b, e)
			}
		}
	}
	if read < 3000 {
		t.Error("too few subtables were read", read)
	}
}
