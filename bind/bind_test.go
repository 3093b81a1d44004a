package bind_test

import (
	"bytes"
	"encoding/binary"
	"math"
	"math/rand"
	"slices"
	"testing"

	"swash/ankr"
	"swash/api"
	"swash/bind"
	"swash/line"
	"swash/place"
	"swash/view"
)

const (
	mark    = 0x8000
	stay    = 0x4000
	none    = 0xFFFF
	gone    = api.Deleted
	classes = 8 // of the glyphs 4 to 7, which have these as classes
	fits    = 9 // glyphs of the tests' font
	ended   = 3 // a glyph that has the class of the line's end, 0
	head    = 20
)

// kinds: those that have actions, and how many bytes each one has.
var kinds = map[int]int{bind.Points: 4, bind.Pairs: 8}

// words, longs: each one's two, or four, bytes.
func words(l ...int) []byte {
	var b []byte
	for _, n := range l {
		b = binary.BigEndian.AppendUint16(b, uint16(n))
	}
	return b
}

func longs(l ...int) []byte {
	var b []byte
	for _, n := range l {
		b = binary.BigEndian.AppendUint32(b, uint32(n))
	}
	return b
}

// machine: a machine's bytes, and where its lookup, its states and its entries stand in them.
func machine(states [][]int, entries []api.Entry) (b []byte, at [3]int) {
	of := words(8, ended, 5, 0, 4, 5, 6, 7)
	at[0] = head
	at[1] = at[0] + len(of)
	at[2] = at[1] + 2*classes*len(states)
	b = slices.Concat(longs(classes, at[0], at[1], at[2], 0), of)
	for _, s := range states {
		b = append(b, words(s...)...)
	}
	for _, e := range entries {
		b = append(b, words(e.Next, e.Flags, e.A)...)
	}
	return b, at
}

// told: tells a subtable's kind, and where its actions stand.
func told(b []byte, kind, at int) { binary.BigEndian.PutUint32(b[16:], uint32(kind<<30|at)) }

// laid: a subtable's bytes: the machine, and behind it the actions' numbers.
func laid(states [][]int, entries []api.Entry, kind int, actions ...int) []byte {
	b, _ := machine(states, entries)
	told(b, kind, len(b))
	return append(b, words(actions...)...)
}

// steps: a machine that does an entry for each of its steps, whatever the glyphs; the last one again for all behind.
func steps(entries ...api.Entry) ([][]int, []api.Entry) {
	var states [][]int
	out := slices.Clone(entries)
	for i := range out {
		states = append(states, slices.Repeat([]int{i}, classes))
		out[i].Next = min(i+1, len(out)-1)
	}
	if len(states) < 2 {
		states = append(states, make([]int, classes))
	}
	return states, out
}

// is: an entry of flags, and of the number of an action.
func is(flags, a int) api.Entry { return api.Entry{Flags: flags, A: a} }

// nothing, sets, binds: an entry that does nothing, one that sets the mark alone, and one that does the first action alone.
var (
	nothing = is(0, none)
	sets    = is(mark, none)
	binds   = is(0, 0)
)

// table: the subtable that bytes begin with.
func table(t *testing.T, b []byte) *bind.Table {
	t.Helper()
	x, e := bind.Read(b, fits)
	if e != api.OK || x == nil {
		t.Fatal("a test's subtable:", e)
	}
	return x
}

// anchors: points of glyphs from 4 on.
func anchors(t *testing.T, of ...[]ankr.Point) *ankr.Table {
	t.Helper()
	lookup, points := words(8, 4, len(of)), []byte{}
	for _, l := range of {
		lookup = append(lookup, words(len(points))...)
		points = append(points, longs(len(l))...)
		for _, p := range l {
			points = append(points, words(p.X, p.Y)...)
		}
	}
	x, e := ankr.Read(slices.Concat(longs(0, 12, 12+len(lookup)), lookup, points), fits)
	if e != api.OK {
		t.Fatal("a test's points:", e)
	}
	return x
}

// some4: points of the glyphs 4 (two), 5 (three), 6 (none).
func some4(t *testing.T) *ankr.Table {
	t.Helper()
	return anchors(t, []ankr.Point{{X: 10, Y: 50}, {X: -3, Y: 700}}, []ankr.Point{{X: 4}, {X: 100, Y: 200}, {X: -0x8000, Y: 0x7FFF}}, nil)
}

// off: places that stand off so far, two numbers each; they don't move on.
func off(l ...int) []api.Place {
	out := make([]api.Place, len(l)/2)
	for i := range out {
		out[i] = api.Place{X: int32(l[2*i]), Y: int32(l[2*i+1])}
	}
	return out
}

// ran: steps of some entries move glyphs, as many as there are places wanted; the line stays as it is.
func ran(t *testing.T, what string, ids []int, want []api.Place, kind int, actions []int, entries ...api.Entry) {
	t.Helper()
	states, all := steps(entries...)
	b := line.New(ids...)
	was := b.Glyphs()
	p := place.New(api.Right, make([]int, len(ids))...)
	if e := table(t, laid(states, all, kind, actions...)).Run(b, p, some4(t)); e != api.OK || !slices.Equal(p.All(), want) {
		t.Errorf("%s: %v, %v, not %v", what, p.All(), e, want)
	}
	if !slices.Equal(b.Glyphs(), was) {
		t.Errorf("%s: the line was changed: %v", what, b.Glyphs())
	}
}

// pairs: as ran, by actions of the kind Pairs, of glyphs that have no points.
func pairs(t *testing.T, what string, want, actions []int, entries ...api.Entry) {
	t.Helper()
	ran(t, what, make([]int, len(want)/2), off(want...), bind.Pairs, actions, entries...)
}

// points: as ran, by actions of the kind Points.
func points(t *testing.T, what string, ids, want, actions []int, entries ...api.Entry) {
	t.Helper()
	ran(t, what, ids, off(want...), bind.Points, actions, entries...)
}

func taken(t *testing.T, what string, b []byte, glyphs int) {
	t.Helper()
	if x, e := bind.Read(b, glyphs); x == nil || e != api.OK {
		t.Errorf("Read of %s: %v, %v", what, x, e)
	}
	var x *bind.Table
	if !view.Try(func() { x = bind.Take(view.Of(b), glyphs) }) || x == nil {
		t.Errorf("Take of %s throws", what)
	}
}

func refused(t *testing.T, what string, b []byte, glyphs int) {
	t.Helper()
	if x, e := bind.Read(b, glyphs); x != nil || e != api.ErrForm {
		t.Errorf("Read of %s: %v, %v", what, x, e)
	}
	if view.Try(func() { bind.Take(view.Of(b), glyphs) }) {
		t.Errorf("Take of %s doesn't throw", what)
	}
}

func TestConstants(t *testing.T) {
	if bind.Mark != mark || bind.None != none || bind.Points != 1 || bind.Pairs != 2 {
		t.Error("constants", bind.Mark, bind.None, bind.Points, bind.Pairs)
	}
}

// P25.1

// plain: the document's example: of the glyphs 4 and 5 the first one is the mark. Of both kinds it does the same.
func plain(kind int) []byte {
	states, entries := steps(sets, binds, nothing)
	if kind == bind.Points {
		return laid(states, entries, kind, 0, 0)
	}
	return laid(states, entries, kind, 10, 50, 4, 0)
}

// moves: of the glyphs 4 and 5 the second one is moved.
func moves(t *testing.T, what string, x *bind.Table, right, up int) {
	t.Helper()
	p := place.New(api.Right, 0, 0)
	if e := x.Run(line.New(4, 5), p, some4(t)); e != api.OK || !slices.Equal(p.All(), off(0, 0, right, up)) {
		t.Errorf("%s: %v, %v", what, p.All(), e)
	}
}

// Each byte up to the last action's last one is needed, and none behind.
func TestReadOfPieces(t *testing.T) {
	for kind := range kinds {
		b := plain(kind)
		taken(t, "all bytes", b, fits)
		for n := range len(b) {
			refused(t, "less than all bytes", b[:n], fits)
		}
		for _, more := range [][]byte{{0}, {0xFF, 0xFF}, make([]byte, 100)} {
			taken(t, "more bytes", slices.Concat(b, more), fits)
		}
	}
}

func TestReadOfNoMachine(t *testing.T) {
	states, entries := steps(sets, binds, nothing)
	_, at := machine(states, entries)
	for _, c := range []struct {
		what    string
		at, num int
	}{
		{"too few classes", 2, 3}, {"too many classes", 0, 1}, {"a machine's lookup behind the bytes", 6, 0x7FFF}, {"a machine without a lookup", at[0], 3},
		{"states behind the bytes", 10, 0x7FFF}, {"entries behind the bytes", 14, 0x7FFF}, {"an entry that isn't there", at[1], 0x7FFF}, {"a state that isn't there", at[2], 0x7FFF},
	} {
		for kind := range 4 {
			b := laid(states, entries, kind, 1, 2, 3, 4)
			taken(t, "a subtable that is one", b, fits)
			binary.BigEndian.PutUint16(b[c.at:], uint16(c.num))
			refused(t, c.what, b, fits)
		}
	}
}

// The actions' place is one within the bytes, or at their end, also where nobody asks for what stands there.
func TestPlaces(t *testing.T) {
	states, entries := steps(sets, nothing)
	b, _ := machine(states, entries)
	for kind := range kinds {
		for _, at := range []int{0, 1, head - 1, len(b) - 3, len(b) - 1, len(b)} {
			told(b, kind, at)
			taken(t, "actions within", b, fits)
		}
		for _, at := range []int{len(b) + 1, len(b) + 2, 1 << 16, 1 << 23, 1<<24 - 1} {
			told(b, kind, at)
			refused(t, "actions behind the bytes", b, fits)
		}
	}
}

// Of the four bytes the last 24 bits tell the place; those between it and the kind don't matter.
func TestBitsBetween(t *testing.T) {
	for kind := range kinds {
		for bit := 24; bit < 30; bit++ {
			b := plain(kind)
			b[16] |= 1 << (bit - 24)
			moves(t, "a bit between", table(t, b), 6, 50)
		}
		// a place that needs them all but the highest one
		states, entries := steps(sets, binds, nothing)
		b, _ := machine(states, entries)
		const far = 1<<23 - 1
		told(b, kind, far)
		b = append(b, make([]byte, far-len(b))...)
		size := kinds[kind]
		b = append(b, plain(kind)[len(plain(kind))-size:]...)
		moves(t, "a far place", table(t, b), 6, 50)
		refused(t, "less than all bytes of a far place", b[:len(b)-1], fits)
	}
}

// Of another kind no more is asked than the machine and these four bytes, and nothing is done to places.
func TestOtherKinds(t *testing.T) {
	states, entries := steps(is(mark, 0), is(mark, 1), is(0, 0xFFFE))
	b, _ := machine(states, entries)
	for _, kind := range []int{0, 3} {
		for _, at := range []int{0, 1, head, len(b), len(b) + 1, 1 << 23, 1<<24 - 1, 1<<30 - 1} {
			told(b, kind, at)
			taken(t, "another kind", b, fits)
			p := place.New(api.Right, 1, 2, 3)
			p.Shift(1, 4, 5)
			was := p.All()
			if e := table(t, b).Run(line.New(4, 5, 4), p, some4(t)); e != api.OK || !slices.Equal(p.All(), was) {
				t.Error("another kind", kind, p.All(), e)
			}
		}
	}
	// the shortest: its entries, its states and its lookup stand upon its own beginning; an entry asks for an action
	b = longs(4, 13, 12, 0, 0, 0, 0)
	taken(t, "the shortest", b, 1)
	for n := range b {
		refused(t, "less than the shortest", b[:n], 1)
	}
	// its machine's error is told
	states, entries = steps(is(mark|stay, 0))
	for _, kind := range []int{0, 3} {
		p := place.New(api.Right, 1, 2)
		if e := table(t, laid(states, entries, kind)).Run(line.New(4, 5), p, some4(t)); e != api.ErrBudget || p.All()[1] != (api.Place{Advance: 2}) {
			t.Error("another kind beyond the budget", p.All(), e)
		}
	}
}

// Which actions are there hangs on an entry's word alone.
func TestWhichActions(t *testing.T) {
	for kind, size := range kinds {
		for _, c := range []struct {
			what string
			n    int // actions that are asked for
			l    []api.Entry
		}{
			{"none", 0, []api.Entry{sets, nothing, is(0xFFFF&^stay, none)}},
			{"the first one", 1, []api.Entry{is(0, 0)}},
			{"the first one, with all flags", 1, []api.Entry{is(0xFFFF, 0), nothing}},
			{"the second one", 2, []api.Entry{is(mark, 1)}},
			{"two", 2, []api.Entry{is(0, 0), is(0, 1)}},
			{"two, the other way round", 2, []api.Entry{is(0, 1), is(0, 0)}},
			{"one behind others", 6, []api.Entry{is(0, 0), nothing, is(0, 5), is(0, 2)}},
			{"one of a great number", 0x8001, []api.Entry{is(0, 0x8000)}},
			{"one of the greatest number", 0xFFFF, []api.Entry{nothing, is(0, 0xFFFE), nothing}},
		} {
			states, entries := steps(c.l...)
			b := slices.Concat(laid(states, entries, kind), make([]byte, c.n*size))
			taken(t, "actions, "+c.what, b, fits)
			if c.n > 0 {
				refused(t, "a byte less than actions, "+c.what, b[:len(b)-1], fits)
				refused(t, "one less than actions, "+c.what, b[:len(b)-size], fits)
			}
		}
	}
}

// An entry to which no state leads counts, if there is one behind it; behind the last one that there is nothing counts.
func TestEntriesThatCount(t *testing.T) {
	states := [][]int{slices.Repeat([]int{0}, classes), slices.Repeat([]int{2}, classes)}
	for kind, size := range kinds {
		b := laid(states, []api.Entry{{A: none}, {A: 1}, {A: none}}, kind)
		taken(t, "two actions", append(b, make([]byte, 2*size)...), fits)
		refused(t, "one action", append(b, make([]byte, size)...), fits)
		taken(t, "an entry behind all", laid(states, []api.Entry{{A: none}, {A: none}, {A: none}, {A: 1}}, kind), fits)
	}
}

// The actions may stand anywhere, at an odd place, too, and upon the machine.
func TestPlacesOfActions(t *testing.T) {
	states, entries := steps(sets, binds, nothing)
	_, at := machine(states, entries)
	for kind, size := range kinds {
		whole := plain(kind)
		action := whole[len(whole)-size:]
		for n := range 5 {
			more := slices.Concat(make([]byte, n), action, slices.Repeat([]byte{0xFE}, n))
			b := slices.Concat(whole[:head], more, whole[head:len(whole)-size])
			for i, place := range at {
				binary.BigEndian.PutUint32(b[4+4*i:], uint32(place+len(more)))
			}
			told(b, kind, head+n)
			moves(t, "actions with bytes between", table(t, b), 6, 50)
		}
	}
	// the action is the machine's lookup: 8, ended, 5, 0
	b := plain(bind.Pairs)
	told(b, bind.Pairs, head)
	moves(t, "an action that is a lookup", table(t, b), 8-5, ended)
}

// A lookup of a number for each glyph has as many as the font has glyphs.
func TestGlyphsOfTheFont(t *testing.T) {
	for kind := range kinds {
		b := plain(kind)
		binary.BigEndian.PutUint32(b[4:], uint32(len(b)))
		b = append(b, words(0, 1, 2, 3, 4, 5)...)
		for glyphs := 1; glyphs < 9; glyphs++ {
			if glyphs <= 5 {
				taken(t, "a lookup of five glyphs", b, glyphs)
			} else {
				refused(t, "a lookup of five glyphs", b, glyphs)
			}
		}
	}
}

// P25.2

func TestReadOfWrongArguments(t *testing.T) {
	for _, glyphs := range []int{0, -1, -65535, 65536, 1<<32 + 1, math.MinInt, math.MaxInt} {
		for _, b := range [][]byte{plain(bind.Points), plain(bind.Pairs), plain(0), nil, {1}} {
			if x, e := bind.Read(b, glyphs); x != nil || e != api.ErrArg {
				t.Errorf("Read of %d bytes, %d glyphs: %v, %v", len(b), glyphs, x, e)
			}
		}
	}
	for _, glyphs := range []int{1, 2, fits, 65534, 65535} {
		taken(t, "a number of glyphs that may be", plain(bind.Points), glyphs)
		refused(t, "no bytes", nil, glyphs)
	}
}

func TestTake(t *testing.T) {
	for kind := range kinds {
		v := view.Of(slices.Concat([]byte{1, 2, 3}, plain(kind), []byte{4}))
		var x *bind.Table
		if !view.Try(func() { x = bind.Take(v.Rest(3), fits) }) || x == nil {
			t.Fatal("Take throws")
		}
		moves(t, "Take", x, 6, 50)
		if view.Try(func() { bind.Take(v, fits) }) || view.Try(func() { bind.Take(view.View{}, fits) }) || view.Try(func() { bind.Take(v.Cut(3, len(plain(kind))-1), fits) }) {
			t.Error("Take of no subtable doesn't throw")
		}
	}
}

// P2: the font's bytes aren't changed, and Read doesn't keep them.
func TestBytesAreNotKept(t *testing.T) {
	for kind := range kinds {
		b := append(plain(kind), 1, 2, 3)[:len(plain(kind))]
		was := bytes.Clone(b[:cap(b)])
		x := table(t, b)
		moves(t, "Read", x, 6, 50)
		moves(t, "Take", bind.Take(view.Of(b), fits), 6, 50)
		if !bytes.Equal(b[:cap(b)], was) {
			t.Errorf("the bytes were changed: %x", b)
		}
		for _, n := range []byte{0, 0xFF} {
			for i := range b {
				b[i] = n
			}
			moves(t, "Run behind a change of the bytes", x, 6, 50)
		}
	}
}

// P25.3

func TestExample(t *testing.T) {
	for kind := range kinds {
		moves(t, "the document's example", table(t, plain(kind)), 6, 50)
	}
}

func TestPairs(t *testing.T) {
	far := []int{10, 50, 4, 0, 1, 2, 30, 40}
	pairs(t, "the first one", []int{0, 0, 6, 50}, far, sets, binds, nothing)
	pairs(t, "the second one", []int{0, 0, -29, -38}, far, sets, is(0, 1), nothing)
	pairs(t, "both", []int{0, 0, 6, 50, -29, -38}, far, sets, binds, is(0, 1), nothing)
	pairs(t, "one place twice", []int{0, 0, -23, 12}, far, sets, is(stay, 0), is(0, 1), nothing)
	for _, n := range []int{0, 1, -1, 255, 256, -256, 0x7FFF, -0x8000, -0x7FFF} {
		pairs(t, "X of the marked glyph", []int{0, 0, n - 3, 0}, []int{n, 5, 3, 5}, sets, binds, nothing)
		pairs(t, "Y of the marked glyph", []int{0, 0, 0, n - 5}, []int{3, n, 3, 5}, sets, binds, nothing)
		pairs(t, "X of the glyph itself", []int{0, 0, 3 - n, 0}, []int{3, 5, n, 5}, sets, binds, nothing)
		pairs(t, "Y of the glyph itself", []int{0, 0, 0, 5 - n}, []int{3, 5, 3, n}, sets, binds, nothing)
	}
	pairs(t, "the furthest", []int{0, 0, 0xFFFF, -0xFFFF}, []int{0x7FFF, -0x8000, -0x8000, 0x7FFF}, sets, binds, nothing)
	pairs(t, "the greatest number", []int{0, 0, 6, 50}, append(make([]int, 4*0xFFFE), 10, 50, 4, 0), sets, is(0, 0xFFFE), nothing)
}

func TestPoints(t *testing.T) {
	ids := []int{4, 5}
	l := []int{0, 0, 1, 0, 0, 1, 1, 2, 2, 0, 0, 3, 0xFFFF, 0, 0, 0xFFFF, 2, 3}
	for a, want := range [][]int{{6, 50}, {-7, 700}, {-90, -150}, {-3 + 0x8000, 700 - 0x7FFF}, {0, 0}, {0, 0}, {0, 0}, {0, 0}, {0, 0}} {
		points(t, "points of both", ids, append([]int{0, 0}, want...), l, sets, is(0, a), nothing)
	}
	points(t, "the other way round", []int{5, 4}, []int{0, 0, -6, -50}, l, sets, binds, nothing)
	points(t, "of glyphs that are alike", []int{5, 5}, []int{0, 0, -96, -200}, []int{0, 1}, sets, binds, nothing)
	points(t, "of a marked glyph without points", []int{6, 5}, []int{0, 0, 0, 0}, l, sets, binds, nothing)
	points(t, "of a glyph without points", []int{4, 6}, []int{0, 0, 0, 0}, l, sets, binds, nothing)
	points(t, "of marked glyphs that are none of the table's", []int{7, 5, 1, 5, gone, 5, -4, 5}, make([]int, 16), l, sets, binds, sets, binds, sets, binds, sets, binds, nothing)
	points(t, "of glyphs that are none of the table's", []int{4, 7, 1, gone, -5}, make([]int, 10), l, sets, binds)
	points(t, "behind one without points", []int{4, 6, 5}, []int{0, 0, 0, 0, 6, 50}, l, sets, binds)
	points(t, "the mark is set, though points lack", []int{6, 4, 5}, []int{0, 0, 0, 0, 6, 50}, l, sets, is(mark, 0), binds, nothing)
	points(t, "the greatest number", ids, []int{0, 0, 6, 50}, append(make([]int, 2*0xFFFE), 0, 0), sets, is(0, 0xFFFE), nothing)
}

// The numbers of points aren't below nought.
func TestGreatNumbers(t *testing.T) {
	many := make([]ankr.Point, 1<<16)
	many[0x7FFF], many[0x8000], many[0xFFFF] = ankr.Point{X: 1, Y: 2}, ankr.Point{X: 30, Y: 40}, ankr.Point{X: 500, Y: 600}
	for _, c := range [][4]int{{0x8000, 0x7FFF, 29, 38}, {0x7FFF, 0xFFFF, -499, -598}, {0xFFFF, 0x8000, 470, 560}} {
		states, entries := steps(sets, binds, nothing)
		p := place.New(api.Right, 0, 0)
		if e := table(t, laid(states, entries, bind.Points, c[0], c[1])).Run(line.New(4, 4), p, anchors(t, many)); e != api.OK || !slices.Equal(p.All(), off(0, 0, c[2], c[3])) {
			t.Error("great numbers of points", c, p.All(), e)
		}
	}
}

// Without points, none are there; actions of the kind Pairs don't hang on them.
func TestNoPoints(t *testing.T) {
	for _, none := range []*ankr.Table{{}, nil} {
		for kind, want := range map[int][]api.Place{bind.Points: off(0, 0, 0, 0), bind.Pairs: off(0, 0, 6, 50)} {
			p := place.New(api.Right, 0, 0)
			if e := table(t, plain(kind)).Run(line.New(4, 5), p, none); e != api.OK || !slices.Equal(p.All(), want) {
				t.Error("no points", kind, p.All(), e)
			}
		}
	}
}

func TestMark(t *testing.T) {
	far := []int{10, 50, 4, 0}
	ids := []int{4, 5, 5}
	l := []int{0, 0}
	pairs(t, "no mark at first", []int{0, 0, 0, 0, 0, 0}, far, binds)
	pairs(t, "nothing is bound to itself", []int{0, 0, 0, 0}, far, is(mark, 0), nothing)
	pairs(t, "one mark, all behind it", []int{0, 0, 6, 50, 6, 50, 6, 50}, far, sets, binds)
	pairs(t, "each to the one ahead", []int{0, 0, 6, 50, 6, 50}, far, is(mark, 0))
	pairs(t, "some between", []int{0, 0, 0, 0, 0, 0, 6, 50}, far, sets, nothing, nothing, binds, nothing)
	pairs(t, "a mark and no action", []int{0, 0, 0, 0, 0, 0}, far, sets)
	pairs(t, "other flags set no mark", []int{0, 0, 0, 0, 0, 0}, far, is(0x3FFF, none), is(0x3FFF, 0))
	pairs(t, "all flags set one", []int{0, 0, 6, 50}, far, is(0xBFFF, none), is(0x3FFF, 0))
	points(t, "the first one stays the mark", ids, []int{0, 0, 6, 50, 6, 50}, l, sets, binds)
	points(t, "the last one is the mark", ids, []int{0, 0, 6, 50, 0, 0}, l, is(mark, 0))
	points(t, "one that was moved is the mark", ids, []int{0, 0, 6, 50, -96, -200}, []int{0, 0, 0, 1}, sets, is(mark, 0), is(0, 1), nothing)
	points(t, "the mark is set behind the action", []int{4, 5, 4}, []int{0, 0, 6, 50, -6, -50}, l, is(mark, 0))
	points(t, "a mark of the step ahead, at its own place", ids, []int{13, -650, 0, 0, 0, 0}, []int{0, 1}, is(mark|stay, none), binds, nothing)
	points(t, "a mark ahead, and then one at its own place", ids, []int{0, 0, 6 - 0x8000 - 100, 50 + 0x7FFF - 200, 0, 0}, []int{0, 0, 2, 1}, sets, is(mark|stay, 0), is(0, 1), nothing)
}

// At the line's end nothing is bound, and no mark set.
func TestEnd(t *testing.T) {
	far := []int{10, 50, 4, 0}
	pairs(t, "an action at the line's end", []int{0, 0, 0, 0}, far, sets, nothing, is(0, 0))
	pairs(t, "a mark and an action at the line's end", []int{0, 0}, far, nothing, is(mark|stay, none), is(mark|stay, 0), is(0, 0))
	pairs(t, "no glyphs", nil, far, is(mark|stay, 0), is(mark, 0))
	// more places than glyphs, which the line's end would be one of
	states, entries := steps(sets, is(mark|stay, 0), binds)
	p := place.New(api.Right, 0, 0, 0)
	if e := table(t, laid(states, entries, bind.Pairs, far...)).Run(line.New(4), p, some4(t)); e != api.OK || !slices.Equal(p.All(), off(0, 0, 0, 0, 0, 0)) {
		t.Error("a place of no glyph", p.All(), e)
	}
}

// A deleted glyph, one of the class of the line's end, and ones that the font hasn't, are glyphs' places.
func TestAnyGlyphs(t *testing.T) {
	ran(t, "glyphs that are none of the font's", []int{gone, ended, -1, 1 << 20, gone}, off(0, 0, 6, 50, 6, 50, 6, 50, 6, 50), bind.Pairs, []int{10, 50, 4, 0}, is(mark, 0))
	// points of a deleted glyph, and of another one that the font hasn't
	x, e := ankr.Read(slices.Concat(longs(0, 12, 22), words(8, 0xFFFE, 2, 0, 8), longs(1), words(1, 2), longs(1), words(30, 40)), fits)
	if e != api.OK {
		t.Fatal("a test's points:", e)
	}
	states, entries := steps(is(mark, 0))
	p := place.New(api.Right, 0, 0, 0)
	if e := table(t, laid(states, entries, bind.Points, 0, 0)).Run(line.New(gone, 0xFFFE, gone), p, x); e != api.OK || !slices.Equal(p.All(), off(0, 0, 29, 38, -29, -38)) {
		t.Error("points of a deleted glyph", p.All(), e)
	}
}

// Right is right, and up is up, whatever the line's direction is; how far glyphs move on doesn't change.
func TestDirections(t *testing.T) {
	for kind := range kinds {
		x := table(t, plain(kind))
		for _, direction := range []int{api.Right, api.Left, api.Down, 3, -1} {
			p := place.New(direction, 500, 600)
			p.Shift(0, 1, 2)
			p.Shift(1, 300, -700)
			want := []api.Place{{Advance: 500, X: 1, Y: 2}, {Advance: 600, X: 306, Y: -650}}
			if e := x.Run(line.New(4, 5), p, some4(t)); e != api.OK || !slices.Equal(p.All(), want) {
				t.Errorf("of the direction %d: %v, %v, not %v", direction, p.All(), e, want)
			}
		}
	}
}

// Nothing is moved beyond 32 bits.
func TestEdges(t *testing.T) {
	states, entries := steps(sets, is(0, 0), is(0, 1), nothing)
	x := table(t, laid(states, entries, bind.Pairs, 0x7FFF, -0x8000, -0x8000, 0x7FFF, -0x8000, 0x7FFF, 0x7FFF, -0x8000))
	p := place.New(api.Right, 0, 0, 0)
	p.Shift(1, math.MaxInt32-5, math.MinInt32+5)
	p.Shift(2, math.MinInt32+0xFFFF, math.MaxInt32-0xFFFE)
	if e := x.Run(line.New(4, 4, 4), p, some4(t)); e != api.OK || !slices.Equal(p.All(), off(0, 0, math.MaxInt32, math.MinInt32, math.MinInt32, math.MaxInt32)) {
		t.Error("edges", p.All(), e)
	}
}

// A machine's classes choose its entries.
func TestClasses(t *testing.T) {
	// 4 is the mark, 5 is bound to it, 6 is bound and the mark
	row := []int{0, 0, 0, 0, 1, 2, 3, 0}
	entries := []api.Entry{nothing, sets, binds, is(mark, 1)}
	x := table(t, laid([][]int{row, row}, entries, bind.Pairs, 10, 50, 4, 0, 1, 2, 0, 0))
	for _, c := range []struct{ ids, want []int }{
		{[]int{4, 5}, []int{0, 0, 6, 50}}, {[]int{5, 4}, []int{0, 0, 0, 0}}, {[]int{4, 7, gone, 5}, []int{0, 0, 0, 0, 0, 0, 6, 50}}, {[]int{6, 5, 6}, []int{0, 0, 6, 50, 1, 2}},
		{[]int{ended, 4, ended, 5}, []int{0, 0, 0, 0, 0, 0, 6, 50}}, {nil, nil},
	} {
		p := place.New(api.Left, make([]int, len(c.ids))...)
		if e := x.Run(line.New(c.ids...), p, some4(t)); e != api.OK || !slices.Equal(p.All(), off(c.want...)) {
			t.Errorf("classes of %v: %v, %v, not %v", c.ids, p.All(), e, c.want)
		}
	}
}

// A run begins without a mark, whatever the one ahead of it had.
func TestRunAgain(t *testing.T) {
	states, entries := steps(binds, sets, nothing)
	x := table(t, laid(states, entries, bind.Pairs, 10, 50, 4, 0))
	for range 3 {
		p := place.New(api.Right, 0, 0)
		if e := x.Run(line.New(4, 5), p, some4(t)); e != api.OK || !slices.Equal(p.All(), off(0, 0, 0, 0)) {
			t.Error("a run again", p.All(), e)
		}
	}
	var zero line.Line
	if e := x.Run(&zero, place.New(api.Right), some4(t)); e != api.OK || zero.Len() != 0 {
		t.Error("the zero Line", zero.Glyphs(), e)
	}
}

// What was done ahead of the machine's error stays done.
func TestBudget(t *testing.T) {
	rest := is(stay, none)
	for _, c := range []struct {
		what string
		want []int
		l    []api.Entry
	}{
		{"rests without an end", []int{0, 0, 6, 50, 0, 0}, []api.Entry{sets, binds, rest}},
		{"rests without an end at the beginning", []int{0, 0, 0, 0, 0, 0}, []api.Entry{rest}},
		{"rests without an end, and an action each time", []int{0, 0, 6 * 65, 50 * 65, 0, 0}, []api.Entry{sets, is(stay, 0)}},
		{"rests, and an action as the last one", []int{0, 0, 6, 50, 0, 0}, slices.Concat([]api.Entry{sets}, slices.Repeat([]api.Entry{rest}, 64), []api.Entry{is(stay, 0), rest})},
		{"rests, and an action behind the last one", []int{0, 0, 0, 0, 0, 0}, slices.Concat([]api.Entry{sets}, slices.Repeat([]api.Entry{rest}, 65), []api.Entry{is(stay, 0)})},
	} {
		states, entries := steps(c.l...)
		x := table(t, laid(states, entries, bind.Pairs, 10, 50, 4, 0))
		b, p := line.New(4, 5, 6), place.New(api.Right, 0, 0, 0)
		was := b.Glyphs()
		if e := x.Run(b, p, some4(t)); e != api.ErrBudget || !slices.Equal(p.All(), off(c.want...)) || !slices.Equal(b.Glyphs(), was) {
			t.Errorf("%s: %v, %v, not %v", c.what, p.All(), e, c.want)
		}
	}
}

func TestLongLine(t *testing.T) {
	const n = 65536
	row := []int{0, 0, 0, 0, 1, 2, 0, 0}
	b := line.New(slices.Repeat([]int{4, 5}, n/2)...)
	p := place.New(api.Right, make([]int, n)...)
	if e := table(t, laid([][]int{row, row}, []api.Entry{nothing, sets, binds}, bind.Points, 0, 0)).Run(b, p, some4(t)); e != api.OK {
		t.Fatal("a long line", e)
	}
	for i, g := range p.All() {
		if want := (api.Place{X: []int32{0, 6}[i%2], Y: []int32{0, 50}[i%2]}); g != want {
			t.Fatalf("a long line: the place %d is %v, not %v", i, g, want)
		}
	}
}

// P1: fewer, or more, places than glyphs: it ends.
func TestOtherPlaces(t *testing.T) {
	for kind := range kinds {
		x := table(t, plain(kind))
		for n := range 5 {
			x.Run(line.New(4, 5, 5), place.New(api.Down, make([]int, n)...), some4(t))
		}
	}
}

// modelled: what a model of a run has.
type modelled struct {
	states  [][]int
	entries []api.Entry
	kind    int
	actions [][4]int
	points  map[int][]ankr.Point
	ids     []int
	places  []api.Place
}

func clamped(n int) int32 { return int32(max(math.MinInt32, min(math.MaxInt32, n))) }

// run: a run, word by word as the document says, of glyphs that have their own classes.
func (m *modelled) run() api.Errno {
	marked := false
	now, at, rests, mark := 0, 0, 0, 0
	for range 2*len(m.ids) + 128 {
		class, end := 0, at >= len(m.ids)
		if !end && m.ids[at] != ended {
			class = 1
			if id := m.ids[at]; id == gone {
				class = 2
			} else if 4 <= id && id < classes {
				class = id
			}
		}
		e := m.entries[m.states[now][class]]
		if e.A != 0xFFFF && marked && !end {
			m.act(m.actions[e.A], mark, at)
		}
		if e.Flags>>15&1 == 1 && !end {
			marked, mark = true, at
		}
		now = e.Next
		switch {
		case e.Flags>>14&1 == 0 && end:
			return api.OK
		case e.Flags>>14&1 == 0:
			at, rests = at+1, 0
		case rests == 64:
			return api.ErrBudget
		default:
			rests++
		}
	}
	return api.ErrBudget
}

func (m *modelled) act(a [4]int, mark, at int) {
	var to, from ankr.Point
	switch m.kind {
	case 1:
		l, own := m.points[m.ids[mark]], m.points[m.ids[at]]
		if a[0] >= len(l) || a[1] >= len(own) {
			return
		}
		to, from = l[a[0]], own[a[1]]
	case 2:
		to, from = ankr.Point{X: a[0], Y: a[1]}, ankr.Point{X: a[2], Y: a[3]}
	}
	p := &m.places[at]
	p.X = clamped(int(p.X) + to.X - from.X)
	p.Y = clamped(int(p.Y) + to.Y - from.Y)
}

// somePlace: a number, often at the edges of 32 bits.
func somePlace(r *rand.Rand) int {
	return []int{0, r.Intn(1000) - 500, math.MaxInt32 - r.Intn(9000), math.MinInt32 + r.Intn(9000)}[r.Intn(4)]
}

// someAction: an action's numbers, of both kinds; the bytes of one of a kind.
func someAction(r *rand.Rand, kind int) ([4]int, []int) {
	if kind == bind.Points {
		a := [4]int{r.Intn(4), r.Intn(4)}
		if r.Intn(10) == 0 {
			a[r.Intn(2)] = r.Intn(1 << 16)
		}
		return a, a[:2]
	}
	var a [4]int
	for i := range a {
		a[i] = []int{r.Intn(200) - 100, r.Intn(1<<16) - 1<<15}[r.Intn(2)]
	}
	return a, a[:]
}

// some: a subtable's bytes, and a model of what it has.
func some(r *rand.Rand) ([]byte, *modelled) {
	m := &modelled{kind: []int{1, 1, 1, 2, 2, 2, 0, 3}[r.Intn(8)]}
	states, n := 2+r.Intn(3), 1+r.Intn(6)
	var actions []int
	for range 1 + r.Intn(6) {
		a, l := someAction(r, m.kind)
		m.actions, actions = append(m.actions, a), append(actions, l...)
	}
	if m.kind%3 == 0 {
		m.actions, actions = make([][4]int, 6), nil
	}
	for range states {
		row := make([]int, classes)
		for i := range row {
			row[i] = r.Intn(n)
		}
		m.states = append(m.states, row)
	}
	for i := range n {
		flags := []int{mark, mark, 0, 0, 0, mark | stay, stay, 0x3FFF}[r.Intn(8)]
		a := []int{none, r.Intn(len(m.actions))}[r.Intn(2)]
		m.entries = append(m.entries, api.Entry{Next: r.Intn(states), Flags: flags, A: a})
		m.states[i%states][r.Intn(classes)] = i // some of them lead to each
	}
	m.entries[0].Next = states - 1
	for _, row := range m.states {
		row[1] = 0
	}
	m.states[0][0] = n - 1 // all are there
	return laid(m.states, m.entries, m.kind, actions...), m
}

// somePoints: of the glyphs from 4 to 7, in a table, and in a map.
func somePoints(t *testing.T, r *rand.Rand) (*ankr.Table, map[int][]ankr.Point) {
	t.Helper()
	of, all := make([][]ankr.Point, 4), map[int][]ankr.Point{}
	for i := range of {
		for range []int{0, 2, 3, 4}[r.Intn(4)] {
			of[i] = append(of[i], ankr.Point{X: r.Intn(1<<16) - 1<<15, Y: r.Intn(2000) - 1000})
		}
		all[4+i] = of[i]
	}
	return anchors(t, of...), all
}

func TestAnyRuns(t *testing.T) {
	r := rand.New(rand.NewSource(25))
	bad, moved := 0, map[int]int{}
	for range 20000 {
		b, m := some(r)
		for range r.Intn(30) {
			m.ids = append(m.ids, []int{0, ended, 4, 5, 6, 7, 4, 5, 6, 7, 8, gone, -5, 1 << 40}[r.Intn(14)])
		}
		far := make([]int, len(m.ids))
		for i := range far {
			far[i] = somePlace(r)
		}
		p := place.New(r.Intn(3), far...)
		for i := range far {
			p.Shift(i, somePlace(r), somePlace(r))
		}
		was := p.All()
		m.places = p.All()
		points, all := somePoints(t, r)
		m.points = all
		l := line.New(m.ids...)
		glyphs := l.Glyphs()
		x := table(t, b)
		want := m.run()
		if e := x.Run(l, p, points); e != want || !slices.Equal(p.All(), m.places) || !slices.Equal(l.Glyphs(), glyphs) {
			t.Fatalf("%x, of %v: %v, %v, not %v, %v", b, m.ids, p.All(), e, m.places, want)
		}
		if want != api.OK {
			bad++
		}
		if !slices.Equal(was, p.All()) {
			moved[m.kind]++
		}
	}
	if bad < 500 || bad > 15000 || moved[1] < 700 || moved[2] < 700 || len(moved) != 2 {
		t.Error("runs beyond the budget, and runs that moved glyphs:", bad, moved)
	}
}

// P1: whatever bytes there are, Read ends, and so does each call of what it answers.
func TestAnyBytes(t *testing.T) {
	r := rand.New(rand.NewSource(125))
	points, _ := somePoints(t, r)
	read, not := 0, 0
	for range 50000 {
		b, _ := some(r)
		for range 1 + r.Intn(3) {
			b[r.Intn(len(b))] = byte([]int{r.Intn(256), r.Intn(9), 0, 0xFF}[r.Intn(4)])
		}
		x, e := bind.Read(b, 1+r.Intn(12))
		if (x == nil) != (e != api.OK) || e != api.OK && e != api.ErrForm {
			t.Fatalf("Read of %x: %v, %v", b, x, e)
		}
		if e != api.OK {
			not++
			continue
		}
		read++
		ids := make([]int, r.Intn(20))
		for i := range ids {
			ids[i] = r.Intn(12)
		}
		p := place.New(r.Intn(3), ids...)
		if e := x.Run(line.New(ids...), p, points); e != api.OK && e != api.ErrBudget || p.Len() != len(ids) {
			t.Fatalf("Run of %x: %v", b, e)
		}
	}
	if read < 3000 || not < 3000 {
		t.Error("too few subtables were read, or refused", read, not)
	}
}

// Several hold one table at once, and none is told of the others.
func TestAtOnce(t *testing.T) {
	x, points := table(t, plain(bind.Points)), some4(t)
	done := make(chan []api.Place)
	for range 8 {
		go func() {
			p := place.New(api.Right, 0, 0)
			x.Run(line.New(4, 5), p, points)
			done <- p.All()
		}()
	}
	for range 8 {
		if l := <-done; !slices.Equal(l, off(0, 0, 6, 50)) {
			t.Error("Run at once", l)
		}
	}
}
