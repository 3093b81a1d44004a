package rear_test

import (
	"bytes"
	"encoding/binary"
	"math"
	"math/rand"
	"slices"
	"testing"

	"swash/api"
	"swash/line"
	"swash/rear"
	"swash/verb"
	"swash/view"
)

const (
	first   = 0x8000
	stay    = 0x4000
	last    = 0x2000
	classes = 8  // of the glyphs 4 to 7, which have these as classes
	fits    = 9  // glyphs of the tests' font
	ended   = 3  // a glyph that has the class of the line's end, 0
	laidAt  = 32 // where the states stand
)

// entry: a next state, and flags.
type entry struct{ next, flags int }

// laid: a machine's bytes.
func laid(states [][]int, entries []entry) []byte {
	var b []byte
	put := func(l ...int) {
		for _, n := range l {
			b = binary.BigEndian.AppendUint16(b, uint16(n))
		}
	}
	put(0, classes, 0, 16, 0, laidAt, 0, laidAt+2*classes*len(states))
	put(8, ended, 5, 0, 4, 5, 6, 7)
	for _, s := range states {
		put(s...)
	}
	for _, e := range entries {
		put(e.next, e.flags)
	}
	return b
}

// table: a subtable of such a machine.
func table(t *testing.T, states [][]int, entries []entry) *rear.Table {
	t.Helper()
	x, e := rear.Read(laid(states, entries), fits)
	if e != api.OK {
		t.Fatal("a test's subtable:", e)
	}
	return x
}

// steps: a subtable that has flags for each of its steps, whatever the glyphs; the last ones again for all behind.
func steps(flags ...int) ([][]int, []entry) {
	var states [][]int
	var entries []entry
	for i, f := range flags {
		states = append(states, slices.Repeat([]int{i}, classes))
		entries = append(entries, entry{min(i+1, len(flags)-1), f})
	}
	if len(states) < 2 {
		states = append(states, make([]int, classes))
	}
	return states, entries
}

// clusters: those of a line's glyphs.
func clusters(b *line.Line) []int {
	var l []int
	for _, g := range b.Glyphs() {
		l = append(l, g.Cluster)
	}
	return l
}

// ran: a line of so many glyphs stands so behind steps of some flags.
func ran(t *testing.T, what string, n int, want []int, flags ...int) {
	t.Helper()
	states, entries := steps(flags...)
	b := line.New(slices.Repeat([]int{4}, n)...)
	if e := table(t, states, entries).Run(b); e != api.OK || !slices.Equal(clusters(b), want) {
		t.Errorf("%s: %v, %v, not %v", what, clusters(b), e, want)
	}
}

func TestConstants(t *testing.T) {
	if rear.First != 0x8000 || rear.Last != 0x2000 || rear.Verb != 0x000F {
		t.Error("constants", rear.First, rear.Last, rear.Verb)
	}
}

// P14.1

func TestRead(t *testing.T) {
	b := laid(steps(first, last|1, 0))
	for _, glyphs := range []int{1, 2, fits, 65534, 65535} {
		x, e := rear.Read(b, glyphs)
		if x == nil || e != api.OK {
			t.Errorf("Read of %d glyphs: %v, %v", glyphs, x, e)
			continue
		}
		y := line.New(5, 6)
		if e := x.Run(y); e != api.OK || !slices.Equal(y.Glyphs(), []api.Glyph{{ID: 6, Cluster: 1}, {ID: 5, Cluster: 0}}) {
			t.Error("Run", y.Glyphs(), e)
		}
	}
}

func TestReadOfWrongArguments(t *testing.T) {
	for _, glyphs := range []int{0, -1, -65535, 65536, 1<<32 + 1, math.MinInt, math.MaxInt} {
		for _, b := range [][]byte{laid(steps(0)), nil, {1}} {
			if x, e := rear.Read(b, glyphs); x != nil || e != api.ErrArg {
				t.Errorf("Read of %d bytes, %d glyphs: %v, %v", len(b), glyphs, x, e)
			}
		}
	}
}

// Each byte of a machine whose entries have no words is needed, and none behind.
func TestReadOfPieces(t *testing.T) {
	b := laid(steps(first, last|1, 0))
	for n := range len(b) {
		if x, e := rear.Read(b[:n], fits); x != nil || e != api.ErrForm {
			t.Errorf("Read of %d bytes: %v, %v", n, x, e)
		}
		if view.Try(func() { rear.Take(view.Of(b[:n]), fits) }) {
			t.Errorf("Take of %d bytes doesn't throw", n)
		}
	}
	for _, more := range [][]byte{{0}, {0xFF, 0xFF}, make([]byte, 100)} {
		if x, e := rear.Read(slices.Concat(b, more), fits); x == nil || e != api.OK {
			t.Errorf("Read of %d bytes more: %v, %v", len(more), x, e)
		}
	}
}

func TestReadOfNoMachine(t *testing.T) {
	whole := laid(steps(first, 0))
	for _, c := range []struct {
		what    string
		at, num int
	}{
		{"too few classes", 2, 3}, {"too many classes", 0, 1}, {"a lookup behind the bytes", 6, 0x7FFF}, {"no lookup", 16, 3},
		{"states behind the bytes", 10, 0x7FFF}, {"entries behind the bytes", 14, 0x7FFF}, {"an entry that isn't there", laidAt, 2}, {"a state that isn't there", laidAt + 4*classes, 2},
	} {
		b := bytes.Clone(whole)
		binary.BigEndian.PutUint16(b[c.at:], uint16(c.num))
		if x, e := rear.Read(b, fits); x != nil || e != api.ErrForm {
			t.Errorf("%s: %v, %v", c.what, x, e)
		}
		if view.Try(func() { rear.Take(view.Of(b), fits) }) {
			t.Errorf("%s: Take doesn't throw", c.what)
		}
	}
}

func TestTake(t *testing.T) {
	b := laid(steps(first, last|1, 0))
	v := view.Of(slices.Concat([]byte{1, 2, 3}, b))
	var x *rear.Table
	if !view.Try(func() { x = rear.Take(v.Rest(3), fits) }) || x == nil {
		t.Fatal("Take throws")
	}
	y := line.New(5, 6)
	if e := x.Run(y); e != api.OK || !slices.Equal(clusters(y), []int{1, 0}) {
		t.Error("Run", y.Glyphs(), e)
	}
	if view.Try(func() { rear.Take(v, fits) }) || view.Try(func() { rear.Take(view.View{}, fits) }) {
		t.Error("Take of no machine doesn't throw")
	}
}

// A lookup of a number for each glyph has as many as the font has glyphs.
func TestGlyphsOfTheFont(t *testing.T) {
	b := laid(steps(first, last|1, 0))
	binary.BigEndian.PutUint16(b[6:], uint16(len(b)))
	b = append(b, make([]byte, 2+2*5)...)
	for glyphs := 1; glyphs < 9; glyphs++ {
		x, e := rear.Read(b, glyphs)
		if want := glyphs <= 5; want != (x != nil) || want != (e == api.OK) || !want && e != api.ErrForm {
			t.Errorf("Read of %d glyphs: %v, %v", glyphs, x, e)
		}
		if ok := view.Try(func() { rear.Take(view.Of(b), glyphs) }); ok != (glyphs <= 5) {
			t.Errorf("Take of %d glyphs ends: %v", glyphs, ok)
		}
	}
}

// The font's bytes are neither changed nor kept.
func TestBytesAreNotKept(t *testing.T) {
	b := laid(steps(first, last|1, 0))
	was := bytes.Clone(b)
	x, _ := rear.Read(b, fits)
	x.Run(line.New(4, 4, 4))
	if !bytes.Equal(b, was) {
		t.Errorf("the bytes were changed: %x", b)
	}
	clear(b)
	y := line.New(5, 6)
	if e := x.Run(y); e != api.OK || !slices.Equal(clusters(y), []int{1, 0}) {
		t.Error("Run behind a change of the bytes", y.Glyphs(), e)
	}
}

// P14.2

func TestExample(t *testing.T) {
	x := table(t, [][]int{{0, 0, 0, 0, 0, 1, 2, 0}, {0, 0, 0, 0, 0, 1, 2, 0}}, []entry{{0, 0}, {1, first}, {1, last | 1}})
	b := line.New(5, 6)
	if e := x.Run(b); e != api.OK || !slices.Equal(b.Glyphs(), []api.Glyph{{ID: 6, Cluster: 1}, {ID: 5, Cluster: 0}}) {
		t.Error("the document's example", b.Glyphs(), e)
	}
}

// The row is from first on, up to the place behind that of Last; what stands beside it stays.
func TestRow(t *testing.T) {
	ran(t, "a row within a line", 6, []int{0, 4, 2, 3, 1, 5}, 0, first, 0, 0, last|3, 0)
	ran(t, "a row of a whole line", 4, []int{3, 1, 2, 0}, first, 0, 0, last|3, 0)
	ran(t, "a row of two glyphs", 4, []int{0, 2, 1, 3}, 0, first, last|3, 0)
	ran(t, "a row from the line's beginning on, without First", 4, []int{2, 1, 0, 3}, 0, 0, last|3, 0)
	ran(t, "a verb behind the row", 4, []int{2, 1, 0, 3}, first, 0, last, 3, 0)
	ran(t, "a verb at the line's end", 4, []int{2, 1, 0, 3}, first, 0, last, 0, 3)
	ran(t, "verbs of one row, one behind the other", 4, []int{2, 0, 1, 3}, first, 0, last|1, 1, 0)
	ran(t, "a row whose last moves on", 5, []int{3, 0, 1, 2, 4}, first, last|3, last|3, last|3, 0)
	ran(t, "two rows", 5, []int{1, 0, 3, 2, 4}, first, last|3, first, last|3, 0)
	ran(t, "a row that begins anew", 5, []int{0, 1, 3, 2, 4}, first, 0, first, last|3, 0)
}

func TestNoRow(t *testing.T) {
	for _, flags := range [][]int{
		{first, 0, 0, 3, 1, 0},      // without Last
		{1, 3, 15, 1, 1},            // without either
		{last, first, 1, 3, 0},      // empty
		{last, 0, first | 3, 1, 0},  // last stands ahead of first
		{first, 0, 0, last, 0},      // without a verb
		{0, first | last | 1, 0},    // of one glyph
		{0, first | last | 3, 0},    // too short for its verb
		{first, 0, last | 12, 0},    // likewise, by one glyph
		{first, last | 8, 0},        // likewise
		{0, 0, 0, 0, first | 1, 0},  // at the line's end
		{0, 0, first, 0, first | 3}, // likewise
		{0x1FF0},                    // flags that say nothing
	} {
		ran(t, "no row that a verb could change", 4, []int{0, 1, 2, 3}, flags...)
	}
}

// A step's First and Last count for its own verb.
func TestFlagsOfOneStep(t *testing.T) {
	ran(t, "Last, and a verb", 3, []int{1, 0, 2}, 0, last|1, 0)
	ran(t, "First, and a verb", 4, []int{0, 1, 2, 3}, first, 0, last, first|3, 0)
	ran(t, "both, and a verb", 4, []int{0, 1, 2, 3}, 0, 0, first|last|3, 0)
}

func TestEachVerb(t *testing.T) {
	for v, want := range [][]int{
		{0, 1, 2, 3, 4, 5, 6}, {0, 2, 3, 4, 5, 1, 6}, {0, 5, 1, 2, 3, 4, 6}, {0, 5, 2, 3, 4, 1, 6}, {0, 3, 4, 5, 1, 2, 6}, {0, 3, 4, 5, 2, 1, 6},
		{0, 4, 5, 1, 2, 3, 6}, {0, 5, 4, 1, 2, 3, 6}, {0, 4, 5, 2, 3, 1, 6}, {0, 5, 4, 2, 3, 1, 6}, {0, 5, 3, 4, 1, 2, 6}, {0, 5, 3, 4, 2, 1, 6},
		{0, 4, 5, 3, 1, 2, 6}, {0, 4, 5, 3, 2, 1, 6}, {0, 5, 4, 3, 1, 2, 6}, {0, 5, 4, 3, 2, 1, 6},
	} {
		ran(t, "a verb", 7, want, 0, first, 0, 0, 0, last|v, 0)
		ran(t, "a verb, and all other bits", 7, want, 0, first|0x1FF0, 0, 0, 0, last|0x1FF0|v, 0)
	}
}

// At the line's end First and Last are how many glyphs the line has.
func TestEnd(t *testing.T) {
	ran(t, "Last at the end", 4, []int{0, 3, 2, 1}, 0, first, 0, 0, last|3)
	ran(t, "Last at the end, of a whole line", 3, []int{1, 2, 0}, 0, 0, 0, last|1)
	ran(t, "both at the end", 4, []int{0, 1, 2, 3}, 0, 0, 0, 0, first|last|1)
	ran(t, "First at the end, and Last ahead of it", 4, []int{0, 1, 2, 3}, 0, 0, last, 0, first|3)
	ran(t, "a rest at the end", 3, []int{2, 1, 0}, 0, 0, 0, last|stay, 3)
	ran(t, "a First and a rest at the end", 3, []int{0, 1, 2}, 0, 0, 0, first|stay, last|stay|1, 3)
	for _, flags := range [][]int{{first | last | 1}, {last | 15}, {first | stay, last | stay | 3, 1}} {
		ran(t, "a line of no glyphs", 0, nil, flags...)
	}
	var zero line.Line
	states, entries := steps(first | last | 3)
	if e := table(t, states, entries).Run(&zero); e != api.OK || zero.Len() != 0 {
		t.Error("the zero Line", zero.Glyphs(), e)
	}
}

// A glyph whose class is that of the line's end stands within the line: Last there is the place behind it, and the machine goes on.
func TestGlyphOfTheClassEnd(t *testing.T) {
	x := table(t, [][]int{{0, 0, 0, 0, 0, 0, 0, 0}, {0, 0, 0, 0, 0, 0, 0, 0}, {1, 0, 0, 0, 0, 0, 0, 0}}, []entry{{2, last | 0x1000 | 1}, {0, 0}})
	b := line.New(ended, ended, ended)
	if e := x.Run(b); e != api.OK || !slices.Equal(clusters(b), []int{1, 2, 0}) {
		t.Error("glyphs of the class End", b.Glyphs(), e)
	}
	x = table(t, [][]int{{2, 0, 0, 0, 0, 1, 2, 0}, {0, 0, 0, 0, 0, 1, 0, 0}}, []entry{{1, 0}, {0, first}, {1, last | 3}})
	for _, c := range []struct{ ids, want []int }{
		{[]int{5, ended}, []int{1, 0}},
		{[]int{5, ended, 4}, []int{1, 0, 2}},
		{[]int{ended, 5, 6, 4}, []int{0, 2, 1, 3}},
		{[]int{ended, ended, 5, ended, ended}, []int{0, 1, 3, 2, 4}},
	} {
		b := line.New(c.ids...)
		if e := x.Run(b); e != api.OK || !slices.Equal(clusters(b), c.want) {
			t.Errorf("along %v: %v, %v, not %v", c.ids, clusters(b), e, c.want)
		}
	}
}

// Where the machine rests, it does so at its own place, and is there at the glyph that stands there now.
func TestRests(t *testing.T) {
	ran(t, "a row of rests", 3, []int{1, 0, 2}, first, last|stay|1, stay|1, 1, 0)
	ran(t, "First and Last where it rests", 4, []int{0, 2, 1, 3}, 0, first|stay, 0, last|stay, 3, 0)
	// glyph 5: First; 6: Last, the verb 1 and a rest, after which 5 is First; 7: Last and the verb 3
	x := table(t, [][]int{{0, 0, 0, 0, 0, 1, 2, 3}, {0, 0, 0, 0, 0, 1, 2, 3}}, []entry{{0, 0}, {0, first}, {1, last | stay | 1}, {0, last | 3}})
	b := line.New(5, 6, 4, 7)
	if e := x.Run(b); e != api.OK || !slices.Equal(clusters(b), []int{1, 3, 2, 0}) {
		t.Error("a rest at another glyph", b.Glyphs(), e)
	}
}

// A machine that goes on doesn't see what a verb brought to places ahead.
func TestPlaces(t *testing.T) {
	// glyph 5: First; 6: Last and the verb 2; behind that a 5 isn't First any more
	x := table(t, [][]int{{0, 0, 0, 0, 0, 1, 2, 3}, {0, 0, 0, 0, 0, 0, 2, 3}}, []entry{{0, 0}, {0, first}, {1, last | 2}, {0, last | 1}})
	b := line.New(4, 5, 4, 6, 4, 7)
	// 4 5 4 6: 4 6 5 4; behind it at the 4, and at the 7, whose row begins where 5 stood
	if e := x.Run(b); e != api.OK || !slices.Equal(clusters(b), []int{0, 1, 2, 4, 5, 3}) {
		t.Error("a machine behind a verb", b.Glyphs(), e)
	}
}

// Glyphs move as they are; deleted ones count, too.
func TestGlyphs(t *testing.T) {
	x := table(t, [][]int{{0, 0, 0, 0, 0, 1, 2, 0}, {0, 0, 0, 0, 0, 1, 2, 0}}, []entry{{0, 0}, {0, first}, {0, last | 15}})
	b := line.Of([]api.Glyph{{ID: api.Deleted, Cluster: 7}, {ID: 5, Cluster: 3}, {ID: api.Deleted, Cluster: 3}, {ID: -1, Cluster: -9}, {ID: 65536, Cluster: 4}, {ID: 6, Cluster: 0}, {ID: 4, Cluster: 4}})
	want := []api.Glyph{{ID: api.Deleted, Cluster: 7}, {ID: 6, Cluster: 0}, {ID: 65536, Cluster: 4}, {ID: -1, Cluster: -9}, {ID: api.Deleted, Cluster: 3}, {ID: 5, Cluster: 3}, {ID: 4, Cluster: 4}}
	if e := x.Run(b); e != api.OK || !slices.Equal(b.Glyphs(), want) {
		t.Error("glyphs", b.Glyphs(), e)
	}
}

// Nothing of a run is kept for the next one.
func TestRunAgain(t *testing.T) {
	x := table(t, [][]int{{0, 0, 0, 0, 0, 1, 2, 3}, {0, 0, 0, 0, 0, 1, 2, 3}}, []entry{{0, 0}, {0, first}, {0, last | 3}, {0, 3}})
	for range 3 {
		for _, c := range []struct{ ids, want []int }{
			{[]int{4, 5, 4, 6, 4}, []int{0, 3, 2, 1, 4}},
			{[]int{4, 4, 6}, []int{2, 1, 0}},
			{[]int{4, 4, 4, 4, 7}, []int{0, 1, 2, 3, 4}},
		} {
			b := line.New(c.ids...)
			if e := x.Run(b); e != api.OK || !slices.Equal(clusters(b), c.want) {
				t.Errorf("a run along %v: %v, %v, not %v", c.ids, clusters(b), e, c.want)
			}
		}
	}
}

// What was done ahead of an error stays done.
func TestBudget(t *testing.T) {
	for _, c := range []struct {
		what        string
		flags, want []int
	}{
		{"a row, and rests without an end", []int{first, 0, last | 3, stay}, []int{2, 1, 0, 3}},
		{"rests that each change a row", []int{first, last | stay | 1}, []int{1, 0, 2, 3}}, // 65 of them
		{"rests that each turn a row of three", []int{first, 0, last | stay | 1}, []int{2, 0, 1, 3}},
		{"rests at the end", []int{first, 0, last | 3, 0, stay}, []int{2, 1, 0, 3}},
	} {
		states, entries := steps(c.flags...)
		b := line.New(4, 4, 4, 4)
		if e := table(t, states, entries).Run(b); e != api.ErrBudget || !slices.Equal(clusters(b), c.want) {
			t.Errorf("%s: %v, %v, not %v", c.what, clusters(b), e, c.want)
		}
	}
	// 60 rests and a step on, twice, and then the verb: that leaves 13 of 136 steps, too few for as much again
	flags := append(slices.Repeat([]int{stay}, 60), 0)
	flags = slices.Concat(flags, flags, []int{last | 3}, flags, flags)
	states, entries := steps(flags...)
	b := line.New(4, 4, 4, 4)
	if e := table(t, states, entries).Run(b); e != api.ErrBudget || !slices.Equal(clusters(b), []int{2, 1, 0, 3}) {
		t.Error("too many steps", clusters(b), e)
	}
	// as many rests as there may be
	states, entries = steps(slices.Concat([]int{first, last | stay | 1}, slices.Repeat([]int{stay}, 63), []int{0})...)
	b = line.New(4, 4, 4, 4)
	if e := table(t, states, entries).Run(b); e != api.OK || !slices.Equal(clusters(b), []int{1, 0, 2, 3}) {
		t.Error("as many rests as there may be", clusters(b), e)
	}
}

func TestLongLine(t *testing.T) {
	const n = 65536
	states, entries := steps(append(slices.Repeat([]int{0}, 2), first, 0)...)
	entries[3].flags = last
	b := line.New(slices.Repeat([]int{4}, n)...)
	if e := table(t, states, entries).Run(b); e != api.OK || !slices.IsSorted(clusters(b)) {
		t.Error("a long line without a verb", e)
	}
	// at its end only, as the class End tells
	x := table(t, [][]int{{1, 0, 0, 0, 0, 0, 0, 0}, {1, 0, 0, 0, 0, 0, 0, 0}}, []entry{{0, 0}, {0, last | 15}})
	if e := x.Run(b); e != api.OK {
		t.Error("a long line", e)
	}
	got := clusters(b)
	if got[0] != n-1 || got[1] != n-2 || got[n-2] != 1 || got[n-1] != 0 || got[2] != 2 || got[n-3] != n-3 || !slices.IsSorted(got[2:n-2]) {
		t.Error("a long line", got[:4], got[n-4:])
	}
}

// model: a run, word by word as the document says, of glyphs that have their own classes.
func model(states [][]int, entries []entry, l []api.Glyph) ([]api.Glyph, api.Errno) {
	l = slices.Clone(l)
	now, at, rests, from, to := 0, 0, 0, 0, 0
	for range 2*len(l) + 128 {
		class, end := 0, at >= len(l)
		if !end && l[at].ID != ended {
			class = 1
			if id := l[at].ID; id == api.Deleted {
				class = 2
			} else if 4 <= id && id < classes {
				class = id
			}
		}
		e := entries[states[now][class]]
		if e.flags>>15&1 == 1 {
			from = at
		}
		if e.flags>>13&1 == 1 {
			to = at + 1
			if end {
				to = at
			}
		}
		if order, ok := verb.Order(e.flags%16, to-from); ok {
			was := slices.Clone(l[from:to])
			for i, k := range order {
				l[from+i] = was[k]
			}
		}
		now = e.next
		switch {
		case e.flags>>14&1 == 0 && end:
			return l, api.OK
		case e.flags>>14&1 == 0:
			at, rests = at+1, 0
		case rests == 64:
			return l, api.ErrBudget
		default:
			rests++
		}
	}
	return l, api.ErrBudget
}

func TestAnyRuns(t *testing.T) {
	r := rand.New(rand.NewSource(14))
	fine, not, moved := 0, 0, 0
	for range 20000 {
		states := make([][]int, 2+r.Intn(4))
		entries := make([]entry, 1+r.Intn(8))
		for i := range states {
			states[i] = make([]int, classes)
			for c := range states[i] {
				states[i][c] = r.Intn(len(entries))
			}
		}
		for i := range entries {
			entries[i] = entry{r.Intn(len(states)), r.Intn(65536)}
			if r.Intn(3) > 0 {
				entries[i].flags &^= stay
			}
		}
		l := make([]api.Glyph, r.Intn(12))
		for i := range l {
			l[i] = api.Glyph{ID: []int{r.Intn(10), 4 + r.Intn(4), api.Deleted}[r.Intn(3)], Cluster: r.Intn(9)}
		}
		want, fault := model(states, entries, l)
		b := line.Of(l)
		if e := table(t, states, entries).Run(b); e != fault || !slices.Equal(b.Glyphs(), want) {
			t.Fatalf("a run of %v, %v along %v: %v, %v, not %v, %v", states, entries, l, b.Glyphs(), e, want, fault)
		}
		if fault == api.OK {
			fine++
		} else {
			not++
		}
		if !slices.Equal(l, want) {
			moved++
		}
	}
	if fine < 3000 || not < 3000 || moved < 3000 {
		t.Error("too few runs came to their ends, or none, or moved glyphs", fine, not, moved)
	}
}
