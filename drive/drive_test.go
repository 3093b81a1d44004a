package drive_test

import (
	"encoding/binary"
	"math"
	"math/rand"
	"slices"
	"testing"

	"swash/api"
	"swash/drive"
	"swash/line"
	"swash/state"
)

// classes: the glyphs of these machines, of which 0 to 5 have the classes 0 to 5, others none.
const classes = 6

// machine: one of entries of two words.
func machine(t *testing.T, states [][]int, entries []api.Entry) *state.Machine {
	t.Helper()
	var b []byte
	put := func(l ...int) {
		for _, n := range l {
			b = binary.BigEndian.AppendUint16(b, uint16(n))
		}
	}
	lookup, behind := 16, 16+2*(3+classes)
	put(0, classes, 0, lookup, 0, behind, 0, behind+2*classes*len(states))
	put(8, 0, classes, 0, 1, 2, 3, 4, 5)
	for _, s := range states {
		put(s...)
	}
	for _, e := range entries {
		put(e.Next, e.Flags, e.A, e.B)
	}
	m, e := state.Read(b, 9, 2)
	if e != api.OK {
		t.Fatal("a test's machine:", e)
	}
	return m
}

// alone: a machine of one entry, whatever the state and the class.
func alone(t *testing.T, e api.Entry) *state.Machine {
	t.Helper()
	return machine(t, [][]int{make([]int, classes), make([]int, classes)}, []api.Entry{e})
}

// row: a machine of a state for each of some flags, which lead on from one to the next, the last one to itself.
func row(t *testing.T, flags ...int) *state.Machine {
	t.Helper()
	var states [][]int
	var entries []api.Entry
	for i, f := range flags {
		states = append(states, slices.Repeat([]int{i}, classes))
		entries = append(entries, api.Entry{Next: min(i+1, len(flags)-1), Flags: f})
	}
	if len(states) < 2 {
		states = append(states, make([]int, classes))
	}
	return machine(t, states, entries)
}

// fours: a line of so many glyphs.
func fours(n int) *line.Line { return line.New(slices.Repeat([]int{4}, n)...) }

// step: what an act was called with.
type step struct {
	i int
	e api.Entry
}

// traced: a machine's run along a line: what the act was called with, how many steps, and the error.
func traced(m *state.Machine, b *line.Line, act drive.Act) ([]step, int, api.Errno) {
	var l []step
	n, e := drive.Run(m, b, func(i int, entry api.Entry) (int, int) {
		l = append(l, step{i, entry})
		return act(i, entry)
	})
	return l, n, e
}

// places: those at which an act was called.
func places(l []step) []int {
	var out []int
	for _, s := range l {
		out = append(out, s.i)
	}
	return out
}

// ran: a run ends so.
func ran(t *testing.T, what string, m *state.Machine, b *line.Line, act drive.Act, steps int, want api.Errno) {
	t.Helper()
	l, n, e := traced(m, b, act)
	if n != steps || e != want || len(l) != steps {
		t.Errorf("%s: %d steps, %v, %d calls, not %d, %v", what, n, e, len(l), steps, want)
	}
}

// P12.1

func TestConstants(t *testing.T) {
	if drive.MaxRest != 64 || drive.Spare != 128 || drive.Stay != 0x4000 {
		t.Error("constants", drive.MaxRest, drive.Spare, drive.Stay)
	}
}

func TestExample(t *testing.T) {
	l, n, e := traced(alone(t, api.Entry{}), line.New(5, 6), drive.Plain(nil))
	if n != 3 || e != api.OK || !slices.Equal(places(l), []int{0, 1, 2}) {
		t.Error("the document's example", l, n, e)
	}
}

// A step at each glyph, and one at the end.
func TestStepsOfLines(t *testing.T) {
	m := alone(t, api.Entry{Next: 1, Flags: 0xFFFF &^ drive.Stay})
	for _, n := range []int{0, 1, 2, 3, 127, 128, 129, 130, 1000, 65536} {
		ran(t, "a line", m, fours(n), drive.Plain(nil), n+1, api.OK)
	}
	var zero line.Line
	ran(t, "the zero Line", m, &zero, drive.Plain(nil), 1, api.OK)
}

// The state is the entry's Next, from 0 on; the act has the whole entry.
func TestStates(t *testing.T) {
	entries := []api.Entry{{Next: 1, Flags: 1, A: 10, B: 20}, {Next: 2, Flags: 0x8000, A: 0xFFFF, B: 21}, {Next: 0, Flags: 0xBFFF, A: 12, B: 0xFFFF}, {Next: 2, Flags: 0x4003, A: 3}}
	m := machine(t, [][]int{{0, 0, 0, 0, 0, 1}, {1, 1, 1, 1, 2, 3}, {2, 0, 1, 2, 3, 0}}, entries)
	// state 0, class 4: entry 0; state 1, class 5: entry 3, which stays; state 2, class 5: entry 0; state 1, class 1: entry 1;
	// state 2, class 2: entry 1; state 2, class 3: entry 2; state 0, class 5: entry 1; state 2, the end: entry 2
	l, n, e := traced(m, line.New(4, 5, 7, api.Deleted, 3, 5), drive.Plain(nil))
	want := []step{{0, entries[0]}, {1, entries[3]}, {1, entries[0]}, {2, entries[1]}, {3, entries[1]}, {4, entries[2]}, {5, entries[1]}, {6, entries[2]}}
	if !slices.Equal(l, want) || n != 8 || e != api.OK {
		t.Error("states", l, n, e)
	}
}

// by: a machine whose entries' A is the class, wherever it is.
func by(t *testing.T) *state.Machine {
	t.Helper()
	var entries []api.Entry
	for c := range classes {
		entries = append(entries, api.Entry{A: c})
	}
	return machine(t, [][]int{{0, 1, 2, 3, 4, 5}, {0, 1, 2, 3, 4, 5}}, entries)
}

func TestClasses(t *testing.T) {
	l, _, e := traced(by(t), line.New(1, 2, 3, 4, 5, 6, api.Deleted, -1, math.MinInt, 65536), drive.Plain(nil))
	var got []int
	for _, s := range l {
		got = append(got, s.e.A)
	}
	if want := []int{1, 2, 3, 4, 5, 1, 2, 1, 1, 1, 0}; e != api.OK || !slices.Equal(got, want) {
		t.Error("classes", got, e)
	}
}

// A glyph whose class is that of the end stands within the line: the step at it isn't the last one.
func TestGlyphOfTheClassEnd(t *testing.T) {
	l, n, e := traced(by(t), line.New(5, 0, 4), drive.Plain(nil))
	want := []step{{0, api.Entry{A: 5}}, {1, api.Entry{}}, {2, api.Entry{A: 4}}, {3, api.Entry{}}}
	if n != 4 || e != api.OK || !slices.Equal(l, want) {
		t.Error("a glyph of the class End", l, n, e)
	}
	l, n, e = traced(alone(t, api.Entry{}), line.New(0, 0), drive.Plain(nil))
	if n != 3 || e != api.OK || !slices.Equal(places(l), []int{0, 1, 2}) {
		t.Error("a line of glyphs of the class End", l, n, e)
	}
	ran(t, "a last glyph of the class End", by(t), line.New(4, 0), drive.Plain(nil), 3, api.OK)
	ran(t, "a glyph of the class End where the machine rests", row(t, drive.Stay, 0), line.New(0, 4), drive.Plain(nil), 4, api.OK)
	ran(t, "a glyph of the class End where it rests too often", row(t, drive.Stay), line.New(0), drive.Plain(nil), 65, api.ErrBudget)
	ran(t, "a glyph of the class End that is never left", by(t), line.New(0, 0), func(int, api.Entry) (int, int) { return 0, 0 }, 132, api.ErrBudget)
	b := line.New(4)
	ran(t, "a glyph of the class End that is put in at the end", by(t), b, func(i int, _ api.Entry) (int, int) {
		if b.Len() == 1 {
			b.Insert(1, 0)
		}
		return i, i + 1
	}, 3, api.OK)
}

// Where the machine goes on, it is at the second place that act answered, and at the first one where it stays.
func TestPlaces(t *testing.T) {
	m := machine(t, [][]int{{0, 0, 0, 0, 0, 1}, {0, 0, 0, 0, 0, 0}}, []api.Entry{{}, {Next: 1, Flags: drive.Stay}})
	stay := map[int]int{1: 3}
	on := map[int]int{0: 1, 3: 2, 2: 4, 4: 0}
	visits := 0
	l, n, e := traced(m, line.New(4, 5, 4, 4, 4), func(i int, e api.Entry) (int, int) {
		if i == 0 {
			visits++
		}
		if visits > 1 {
			return 77, 5
		}
		return stay[i], on[i]
	})
	if want := []int{0, 1, 3, 2, 4, 0, 5}; e != api.OK || n != 7 || !slices.Equal(places(l), want) {
		t.Error("places", places(l), n, e)
	}
}

// A place below 0 counts as 0, of both; one far behind the line is its end.
func TestPlacesThatArent(t *testing.T) {
	for _, at := range []int{-1, -2, -65536, -1 << 32, math.MinInt} {
		first := true
		l, n, e := traced(row(t, 0), line.New(4, 5), func(i int, _ api.Entry) (int, int) {
			if i == 1 && first {
				first = false
				return 1, at
			}
			return i, i + 1
		})
		if want := []int{0, 1, 0, 1, 2}; n != 5 || e != api.OK || !slices.Equal(places(l), want) {
			t.Errorf("on to %d: %v, %d, %v", at, places(l), n, e)
		}
		l, n, e = traced(row(t, 0, drive.Stay, 0), line.New(4, 5), func(i int, e api.Entry) (int, int) {
			return at, i + 1
		})
		if want := []int{0, 1, 0, 1, 2}; n != 5 || e != api.OK || !slices.Equal(places(l), want) {
			t.Errorf("stay at %d: %v, %d, %v", at, places(l), n, e)
		}
	}
	for _, at := range []int{2, 3, 65536, 1 << 32, math.MaxInt} {
		l, n, e := traced(row(t, 0), line.New(4, 5), func(i int, _ api.Entry) (int, int) { return 0, at })
		if want := []int{0, at}; n != 2 || e != api.OK || !slices.Equal(places(l), want) {
			t.Errorf("on to %d: %v, %d, %v", at, places(l), n, e)
		}
		l, n, e = traced(row(t, drive.Stay, 0), line.New(4, 5), func(i int, _ api.Entry) (int, int) { return at, 0 })
		if want := []int{0, at}; n != 2 || e != api.OK || !slices.Equal(places(l), want) {
			t.Errorf("stay at %d: %v, %d, %v", at, places(l), n, e)
		}
	}
}

// At the end a machine that rests goes on with a step; where it doesn't, that was the last one, wherever act leads.
func TestEnd(t *testing.T) {
	ran(t, "a rest at the end", row(t, 0, 0, drive.Stay, drive.Stay, 0), line.New(4, 5), drive.Plain(nil), 5, api.OK)
	ran(t, "a way back from the end", row(t, 0), line.New(4, 5), func(i int, _ api.Entry) (int, int) {
		return i, (i + 1) % 3
	}, 3, api.OK)
	l, n, e := traced(row(t, 0, 0, drive.Stay, 0), line.New(4, 5), func(i int, _ api.Entry) (int, int) {
		return 1, i + 1
	})
	if want := []int{0, 1, 2, 1, 2}; n != 5 || e != api.OK || !slices.Equal(places(l), want) {
		t.Error("a rest at the end that leads back", places(l), n, e)
	}
}

// Whether a step is the last one hangs on where it began, not on what act does there.
func TestEndOfAChangedLine(t *testing.T) {
	b := line.New(4, 5)
	ran(t, "a line that grows at its end", row(t, 0), b, func(i int, _ api.Entry) (int, int) {
		if i == b.Len() {
			b.Insert(i, 7, 7)
		}
		return i, i + 1
	}, 3, api.OK)
	if b.Len() != 4 {
		t.Error("a line that grew", b.Glyphs())
	}
	ran(t, "a line that loses what stands at a step's place", row(t, 0), b, func(i int, _ api.Entry) (int, int) {
		if i == 3 {
			b.Set(3, api.Deleted)
			b.Clean()
		}
		return i, i + 1
	}, 5, api.OK)
}

// What act puts into the line, or takes, is there at the next step.
func TestChangedLine(t *testing.T) {
	b := line.New(3, 4, 5)
	l, n, e := traced(by(t), b, func(i int, e api.Entry) (int, int) {
		switch i {
		case 0:
			b.Insert(1, 5)
			b.Set(2, 3)
		case 2:
			b.Insert(0, 1, 1)
			return i, i + 3
		}
		return i, i + 1
	})
	want := []step{{0, api.Entry{A: 3}}, {1, api.Entry{A: 5}}, {2, api.Entry{A: 3}}, {5, api.Entry{A: 5}}, {6, api.Entry{}}}
	if n != 5 || e != api.OK || !slices.Equal(l, want) {
		t.Error("a line that changes", l, n, e)
	}
}

// As many rests as there may be, one behind the other, and one more.
func TestRests(t *testing.T) {
	rests := slices.Repeat([]int{drive.Stay}, drive.MaxRest)
	most, more := append(slices.Clone(rests), 0), append(slices.Clone(rests), drive.Stay)
	for _, n := range []int{0, 1, 2, 500} {
		b := fours(n)
		ran(t, "as many rests as there may be", row(t, most...), b, drive.Plain(nil), 64+n+1, api.OK)
		ran(t, "a rest more", row(t, more...), b, drive.Plain(nil), 65, api.ErrBudget)
		ran(t, "rests without an end", alone(t, api.Entry{Flags: 0xFFFF}), b, drive.Plain(nil), 65, api.ErrBudget)
		ran(t, "rests at one place after another", alone(t, api.Entry{Flags: drive.Stay}), b, func(i int, _ api.Entry) (int, int) {
			return i + 1, 0
		}, 65, api.ErrBudget)
	}
	// those ahead of a step that doesn't rest don't count
	b := fours(100)
	ran(t, "rests twice", row(t, append(most, most...)...), b, drive.Plain(nil), 2*64+101, api.OK)
	ran(t, "rests twice, and one more", row(t, append(most, more...)...), b, drive.Plain(nil), 2*64+1+1, api.ErrBudget)
	ran(t, "a rest at each place", row(t, slices.Repeat([]int{drive.Stay, 0}, 101)...), b, drive.Plain(nil), 2*101, api.OK)
	ran(t, "other flags than Stay", alone(t, api.Entry{Flags: 0xBFFF}), b, drive.Plain(nil), 101, api.OK)
}

// until: an act that leads to the line's end at a step, from 1 on, and to its beginning at all others.
func until(b *line.Line, last int) drive.Act {
	steps := 0
	return func(int, api.Entry) (int, int) {
		if steps++; steps == last-1 {
			return 0, b.Len()
		}
		return 0, 0
	}
}

func TestBudget(t *testing.T) {
	m := row(t, 0)
	for _, n := range []int{1, 2, 3, 64, 100, 1000} {
		b := fours(n)
		most := 2*n + 128
		ran(t, "as many steps as there may be", m, b, until(b, most), most, api.OK)
		ran(t, "a step less", m, b, until(b, most-1), most-1, api.OK)
		ran(t, "a step more", m, b, until(b, most+1), most, api.ErrBudget)
		ran(t, "no end", m, b, until(b, 0), most, api.ErrBudget)
	}
	// rests are steps, too; the last step that there may be is one
	b := line.New(4, 4)
	ran(t, "rests, and ways back", row(t, slices.Repeat([]int{drive.Stay, drive.Stay, 0}, 60)...), b, until(b, 0), 132, api.ErrBudget)
	flags := make([]int, 132)
	flags[131] = drive.Stay
	ran(t, "a rest at the last step", row(t, flags...), b, until(b, 132), 132, api.ErrBudget)
	// at the last step both may be too many
	flags = append(make([]int, 132-65), slices.Repeat([]int{drive.Stay}, 65)...)
	ran(t, "a rest too many at the last step", row(t, flags...), b, until(b, 0), 132, api.ErrBudget)
}

// The budget is of the glyphs that the line had at first.
func TestBudgetOfAChangedLine(t *testing.T) {
	b := line.New(4)
	ran(t, "a line that grows", row(t, 0), b, func(i int, _ api.Entry) (int, int) {
		b.Insert(i, 4)
		return 0, i + 1
	}, 130, api.ErrBudget)
	if b.Len() != 131 {
		t.Error("a line that grew", b.Len())
	}
	b = fours(50)
	ran(t, "a line that shrinks", row(t, 0), b, func(i int, _ api.Entry) (int, int) {
		if b.Len() > 1 {
			b.Set(1, api.Deleted)
			b.Clean()
		}
		return 0, 0
	}, 228, api.ErrBudget)
}

// What act did ahead of an error stays done; the machine is as it was, and runs again from the state 0 on.
func TestRunAgain(t *testing.T) {
	m := row(t, append(slices.Repeat([]int{drive.Stay}, 70), 0)...)
	states, entries := m.States(), m.Entries()
	b := line.New(4)
	for i := range 3 {
		ran(t, "a run behind another", m, b, func(int, api.Entry) (int, int) {
			b.Insert(0, 9)
			return 0, 0
		}, 65, api.ErrBudget)
		if b.Len() != 1+65*(i+1) {
			t.Error("a line behind an error", b.Len())
		}
	}
	if m.States() != states || !slices.Equal(m.Entries(), entries) {
		t.Error("a machine was changed")
	}
	b = line.New(4, 5)
	was := b.Glyphs()
	ran(t, "a run whose act does nothing", row(t, 0), b, drive.Plain(nil), 3, api.OK)
	if !slices.Equal(b.Glyphs(), was) {
		t.Error("a line was changed", b.Glyphs())
	}
}

func TestNoAct(t *testing.T) {
	if n, e := drive.Run(row(t, 0), line.New(4, 5), nil); n != 3 || e != api.OK {
		t.Error("a run without an act", n, e)
	}
	if n, e := drive.Run(row(t, drive.Stay), line.New(4, 5), nil); n != 65 || e != api.ErrBudget {
		t.Error("a run without an act, that rests", n, e)
	}
}

// P12.2

func TestPlain(t *testing.T) {
	var l []step
	act := drive.Plain(func(i int, e api.Entry) { l = append(l, step{i, e}) })
	var want []step
	for _, i := range []int{0, 1, 2, 65536, -1, -7, 1 << 40, math.MinInt, math.MaxInt - 1} {
		e := api.Entry{Next: i, Flags: 0x4000, A: -1, B: 4}
		if stay, on := act(i, e); stay != i || on != i+1 {
			t.Errorf("Plain at %d: %d, %d", i, stay, on)
		}
		if stay, on := drive.Plain(nil)(i, e); stay != i || on != i+1 {
			t.Errorf("Plain of none at %d: %d, %d", i, stay, on)
		}
		want = append(want, step{i, e})
	}
	if !slices.Equal(l, want) {
		t.Error("what was called", l)
	}
}

// Two acts of Plain have nothing in common.
func TestPlainTwice(t *testing.T) {
	one, other := 0, 0
	a, b := drive.Plain(func(int, api.Entry) { one++ }), drive.Plain(func(int, api.Entry) { other++ })
	a(3, api.Entry{})
	b(4, api.Entry{})
	b(5, api.Entry{})
	if one != 1 || other != 2 {
		t.Error("calls", one, other)
	}
}

func TestPlainRun(t *testing.T) {
	var l []step
	n, e := drive.Run(by(t), line.New(4, 5), drive.Plain(func(i int, e api.Entry) { l = append(l, step{i, e}) }))
	if n != 3 || e != api.OK || !slices.Equal(l, []step{{0, api.Entry{A: 4}}, {1, api.Entry{A: 5}}, {2, api.Entry{}}}) {
		t.Error("a run", l, n, e)
	}
}

// model: a run, word by word as the document says, of states and entries; what each step leads to is told ahead.
func model(states [][]int, entries []api.Entry, ids []int, leads [][2]int) ([]step, api.Errno) {
	var l []step
	for at, now, rests := 0, 0, 0; ; {
		class := 0
		if at < len(ids) {
			class = 1
			if ids[at] < classes {
				class = ids[at]
			}
			if ids[at] == api.Deleted {
				class = 2
			}
		}
		e := entries[states[now][class]]
		l = append(l, step{at, e})
		lead := leads[(len(l)-1)%len(leads)]
		now = e.Next
		rest, end := e.Flags>>14&1 == 1, at >= len(ids)
		switch {
		case rest && rests == 64:
			return l, api.ErrBudget
		case !rest && end:
			return l, api.OK
		case len(l) == 2*len(ids)+128:
			return l, api.ErrBudget
		case rest:
			rests++
			at = max(0, lead[0])
		default:
			rests = 0
			at = max(0, lead[1])
		}
	}
}

func TestAnyRuns(t *testing.T) {
	r := rand.New(rand.NewSource(12))
	fine, not := 0, 0
	for range 5000 {
		states := make([][]int, 2+r.Intn(4))
		entries := make([]api.Entry, 1+r.Intn(6))
		for i := range states {
			states[i] = make([]int, classes)
			for c := range states[i] {
				states[i][c] = r.Intn(len(entries))
			}
		}
		for i := range entries {
			entries[i] = api.Entry{Next: r.Intn(len(states)), Flags: r.Intn(65536), A: r.Intn(65536), B: i}
		}
		ids := make([]int, r.Intn(8))
		for i := range ids {
			ids[i] = []int{r.Intn(8), 1 + r.Intn(5), api.Deleted}[r.Intn(3)]
		}
		leads := make([][2]int, 1+r.Intn(9))
		for i := range leads {
			leads[i] = [2]int{r.Intn(len(ids)+4) - 2, r.Intn(len(ids)+3) - 2}
		}
		want, fault := model(states, entries, ids, leads)
		steps := 0
		l, n, e := traced(machine(t, states, entries), line.New(ids...), func(int, api.Entry) (int, int) {
			lead := leads[steps%len(leads)]
			steps++
			return lead[0], lead[1]
		})
		if !slices.Equal(l, want) || n != len(want) || e != fault {
			t.Fatalf("a run of %v, %v along %v: %v, %d, %v, not %v, %v", states, entries, ids, l, n, e, want, fault)
		}
		if e == api.OK {
			fine++
		} else {
			not++
		}
	}
	if fine < 500 || not < 500 {
		t.Error("too few runs came to their ends, or none", fine, not)
	}
}
