package state_test

import (
	"bytes"
	"encoding/binary"
	"math"
	"math/rand"
	"slices"
	"testing"

	"swash/api"
	"swash/lookup"
	"swash/state"
	"swash/view"
)

// words: each one's two bytes.
func words(l ...int) []byte {
	var b []byte
	for _, n := range l {
		b = binary.BigEndian.AppendUint16(b, uint16(n))
	}
	return b
}

// longs: each one's four bytes.
func longs(l ...int) []byte {
	var b []byte
	for _, n := range l {
		b = binary.BigEndian.AppendUint32(b, uint32(n))
	}
	return b
}

// plan: what a machine is made of.
type plan struct {
	classes int
	lookup  []byte
	states  [][]int
	entries []api.Entry
	words   int
}

func (p plan) stateBytes() []byte {
	var b []byte
	for _, s := range p.states {
		b = append(b, words(s...)...)
	}
	return b
}

func (p plan) entryBytes() []byte {
	var b []byte
	for _, e := range p.entries {
		b = append(b, words([]int{e.Next, e.Flags, e.A, e.B}[:2+p.words]...)...)
	}
	return b
}

// laid: the machine's bytes, its three parts in that order (0 lookup, 1 states, 2 entries), so many bytes ahead of each.
func (p plan) laid(order []int, gap int) []byte {
	parts := [][]byte{p.lookup, p.stateBytes(), p.entryBytes()}
	head := []int{p.classes, 0, 0, 0}
	at := 16
	var behind []byte
	for _, i := range order {
		behind = append(behind, bytes.Repeat([]byte{0xFF}, gap)...)
		head[1+i] = at + len(behind)
		behind = append(behind, parts[i]...)
	}
	return append(longs(head...), behind...)
}

func (p plan) bytes() []byte { return p.laid([]int{0, 1, 2}, 0) }

var orders = [][]int{{0, 1, 2}, {0, 2, 1}, {1, 0, 2}, {1, 2, 0}, {2, 0, 1}, {2, 1, 0}}

// noClasses: a lookup that gives no glyph a class.
var noClasses = words(8, 0, 0)

// is: a machine has these states and entries, and leads from one to the other as they say.
func is(t *testing.T, what string, m *state.Machine, p plan) {
	t.Helper()
	if m == nil {
		t.Errorf("%s: none", what)
		return
	}
	if m.Classes() != p.classes || m.States() != len(p.states) || !slices.Equal(m.Entries(), p.entries) {
		t.Errorf("%s: %d classes, %d states, entries %v, not %d, %d, %v", what, m.Classes(), m.States(), m.Entries(), p.classes, len(p.states), p.entries)
		return
	}
	for s := -2; s < len(p.states)+2; s++ {
		for c := -2; c < p.classes+2; c++ {
			e, ok := m.Step(s, c)
			there := s >= 0 && s < len(p.states) && c >= 0 && c < p.classes
			want := api.Entry{}
			if there {
				want = p.entries[p.states[s][c]]
			}
			if ok != there || e != want {
				t.Errorf("%s: Step(%d, %d): %v, %v, not %v, %v", what, s, c, e, ok, want, there)
				return
			}
		}
	}
}

// taken: the machine that the bytes begin with is that one, by Take and by Read.
func taken(t *testing.T, what string, b []byte, p plan) {
	t.Helper()
	m, e := state.Read(b, 9, p.words)
	if e != api.OK {
		t.Errorf("Read of %s: %v", what, e)
		return
	}
	is(t, "Read of "+what, m, p)
	m = nil
	if !view.Try(func() { m = state.Take(view.Of(b), 9, p.words) }) {
		t.Errorf("Take of %s throws", what)
		return
	}
	is(t, "Take of "+what, m, p)
}

func refused(t *testing.T, what string, b []byte, words int) {
	t.Helper()
	if m, e := state.Read(b, 9, words); e != api.ErrForm || m != nil {
		t.Errorf("Read of %s: %v, %v", what, m, e)
	}
	if view.Try(func() { state.Take(view.Of(b), 9, words) }) {
		t.Errorf("Take of %s doesn't throw", what)
	}
}

// simple: two states, one entry.
func simple() plan {
	return plan{classes: 4, lookup: noClasses, states: [][]int{{0, 0, 0, 0}, {0, 0, 0, 0}}, entries: []api.Entry{{Next: 1}}}
}

// five: three states of five classes, three entries, with so many words.
func five(n int) plan {
	p := plan{
		classes: 5, lookup: words(8, 2, 3, 4, 1, 3), words: n,
		states:  [][]int{{0, 1, 0, 0, 0}, {1, 1, 0, 2, 1}, {2, 0, 1, 1, 0}},
		entries: []api.Entry{{Next: 1, Flags: 0x8001}, {Next: 0, Flags: 0xFFFF}, {Next: 2, Flags: 0x1234}},
	}
	for i := range p.entries {
		if n > 0 {
			p.entries[i].A = 0xFFF0 + i
		}
		if n > 1 {
			p.entries[i].B = 0x8010 + i
		}
	}
	return p
}

// P7.1

func TestExample(t *testing.T) {
	taken(t, "the document's example", simple().bytes(), simple())
}

// The parts stand in any order, with bytes between and behind, and none of their bytes may lack.
func TestParts(t *testing.T) {
	for n := range 3 {
		p := five(n)
		for _, order := range orders {
			for gap := range 4 {
				b := p.laid(order, gap)
				taken(t, "a machine", b, p)
				taken(t, "a machine with bytes behind", append(slices.Clip(b), 0xFF, 0xFF, 0xFF, 0xFF, 0xFF, 0xFF, 0xFF, 0xFF, 0xFF), p)
				for i := range b {
					refused(t, "less than all bytes of a machine", b[:i], n)
				}
			}
		}
	}
}

// Parts may share bytes, the head's too.
func TestPartsThatShare(t *testing.T) {
	p := simple()
	p.entries = []api.Entry{{Next: 0, Flags: 0}}
	head := longs(4, 16, 22, 22)
	taken(t, "states and entries at one place", slices.Concat(head, noClasses, make([]byte, 16)), p)
	taken(t, "entries within the head", slices.Concat(longs(4, 16, 22, 8), noClasses, make([]byte, 16)), plan{
		classes: 4, states: p.states, entries: []api.Entry{{Next: 0, Flags: 22}},
	})
	taken(t, "a lookup within the states", slices.Concat(longs(4, 16, 16, 32), make([]byte, 36)), p)
}

func TestWords(t *testing.T) {
	p := five(1)
	p.states = [][]int{{0, 0, 0, 0, 0}, {0, 0, 0, 0, 0}}
	p.entries = p.entries[:1]
	for n := range 3 {
		p.words = n
		p.entries[0] = api.Entry{Next: 1, Flags: 2, A: min(n, 1) * 3, B: n / 2 * 4}
		b := p.bytes()
		taken(t, "a machine of one entry", b, p)
		for more := n + 1; more < 3; more++ {
			refused(t, "a machine of fewer words", b, more)
		}
	}
}

func TestHowManyClasses(t *testing.T) {
	for _, n := range []int{0, 1, 2, 3, 65536, 65537, 1 << 31, 1<<32 - 1, 1<<32 - 4, 4 << 16, 4 << 24} {
		b := append(longs(n, 16, 22, 22), noClasses...)
		refused(t, "a machine of too few or too many classes", append(b, make([]byte, 1<<19)...), 0)
	}
	for _, n := range []int{4, 5, 6, 255, 256, 65534, 65535} {
		p := plan{classes: n, lookup: noClasses, states: [][]int{make([]int, n), make([]int, n)}, entries: []api.Entry{{Next: 1, Flags: n}}}
		b := p.laid([]int{0, 2, 1}, 0)
		taken(t, "a machine of classes", b, p)
		refused(t, "a machine of classes without its last byte", b[:len(b)-1], 0)
	}
}

// A part stands at a place of the bytes: each of the three numbers may be beside them.
func TestPlaces(t *testing.T) {
	b := simple().bytes()
	for at := 4; at < 16; at += 4 {
		for _, n := range []int{len(b), len(b) + 1, 1 << 16, 1<<31 - 1, 1 << 31, 1<<32 - 16, 1<<32 - 1} {
			bad := bytes.Clone(b)
			binary.BigEndian.PutUint32(bad[at:], uint32(n))
			refused(t, "a part beside the bytes", bad, 0)
		}
	}
}

func TestLookups(t *testing.T) {
	for _, l := range [][]byte{
		words(0, 4, 4, 4, 4, 4, 4, 4, 4, 4), words(2, 6, 1, 0, 0, 0, 8, 0, 4), words(4, 6, 1, 0, 0, 0, 1, 0, 18, 4, 4),
		words(6, 4, 2, 0, 0, 0, 0, 4, 1, 4), words(8, 0, 2, 4, 4), append(words(10, 1, 0, 2), 4, 4),
	} {
		p := five(0)
		p.lookup = l
		b := p.laid([]int{1, 2, 0}, 0)
		taken(t, "a machine with a lookup", b, p)
		m, _ := state.Read(b, 9, 0)
		if m.Class(0) != 4 || m.Class(1) != 4 || m.Class(9) != state.Outside {
			t.Errorf("classes of the lookup %x: %d, %d, %d", l, m.Class(0), m.Class(1), m.Class(9))
		}
		refused(t, "a machine with a lookup that lacks a byte", b[:len(b)-1], 0)
	}
	for _, l := range [][]byte{words(1, 0, 0), words(8, 65535, 2, 0, 0), words(2, 6, 2, 0, 0, 0, 3, 3, 4, 3, 3, 4), words(10, 3, 0, 0), words(2, 5, 0, 0, 0, 0)} {
		p := simple()
		p.lookup = l
		refused(t, "a machine with what is no lookup", p.bytes(), 0)
	}
	// format 0 has a number for each of the font's glyphs, of two bytes
	p := simple()
	p.lookup = words(0, 1, 2, 3)
	b := p.laid([]int{1, 2, 0}, 0)
	for glyphs := 1; glyphs < 6; glyphs++ {
		if _, e := state.Read(b, glyphs, 0); (e == api.OK) != (glyphs <= 3) {
			t.Errorf("a lookup of three glyphs, of a font of %d: %v", glyphs, e)
		}
	}
}

// How many states and entries there are hangs on what leads where alone.
func TestHowManyStatesAndEntries(t *testing.T) {
	for _, c := range []struct {
		states          [][]int // all that there are bytes of
		next            []int
		nStates, nEntry int // how many of them are the machine's
	}{
		{[][]int{{0, 0, 0, 0}, {0, 0, 0, 0}, {9, 9, 9, 9}}, []int{0, 9, 9}, 2, 1},
		{[][]int{{0, 0, 0, 0}, {0, 0, 0, 0}, {9, 9, 9, 9}}, []int{1, 9, 9}, 2, 1},
		{[][]int{{0, 0, 0, 1}, {0, 0, 0, 0}, {9, 9, 9, 9}}, []int{1, 0, 9}, 2, 2},
		{[][]int{{0, 0, 0, 0}, {1, 0, 0, 0}, {9, 9, 9, 9}}, []int{1, 0, 9}, 2, 2},
		// nobody leads to the entries 0 and 1: they are there, and the states that they lead to
		{[][]int{{2, 2, 2, 2}, {2, 2, 2, 2}, {2, 2, 2, 2}, {0, 0, 0, 0}, {9, 9, 9, 9}}, []int{3, 0, 0, 9}, 4, 3},
		{[][]int{{2, 2, 2, 2}, {2, 2, 2, 2}, {3, 2, 2, 2}, {9, 9, 9, 9}}, []int{0, 2, 1, 0, 9}, 3, 4},
		// nobody leads to the state 2, either, but to 3
		{[][]int{{0, 0, 0, 0}, {0, 0, 0, 0}, {1, 0, 0, 0}, {0, 0, 0, 0}, {9, 9, 9, 9}}, []int{3, 0, 9}, 4, 2},
		// each asks for one more
		{[][]int{{0, 0, 0, 0}, {0, 0, 0, 0}, {0, 0, 0, 1}, {0, 0, 2, 0}, {0, 3, 0, 0}, {4, 0, 0, 0}, {4, 4, 4, 4}, {9, 9, 9, 9}}, []int{2, 3, 4, 5, 6, 9}, 7, 5},
		{[][]int{{0, 0, 0, 0}, {0, 0, 0, 0}, {1, 1, 1, 1}, {0, 0, 0, 0}, {0, 0, 0, 0}, {0, 0, 0, 2}, {9, 9, 9, 9}}, []int{2, 5, 0, 9}, 6, 3},
	} {
		all := plan{classes: 4, lookup: noClasses, states: c.states}
		for i, n := range c.next {
			all.entries = append(all.entries, api.Entry{Next: n, Flags: 100 + i})
		}
		want := all
		want.states, want.entries = c.states[:c.nStates], all.entries[:c.nEntry]
		taken(t, "more than is asked for", all.bytes(), want)
		for _, order := range orders {
			b := want.laid(order, 0)
			taken(t, "as much as is asked for", b, want)
			refused(t, "less than is asked for", b[:len(b)-1], 0)
		}
	}
}

// A loop of states that lead to all others, up to the greatest numbers that there can be.
func TestMost(t *testing.T) {
	p := plan{classes: 4, lookup: noClasses, states: make([][]int, 65536), entries: make([]api.Entry, 65536)}
	for i := range p.states {
		p.states[i] = []int{i, 0, 1, i}
		p.entries[i] = api.Entry{Next: min(i+2, 65535), Flags: i}
	}
	b := p.bytes()
	taken(t, "65536 states", b, p)
	refused(t, "65536 states, and a byte less", b[:len(b)-1], 0)
	b = p.laid([]int{0, 2, 1}, 0)
	taken(t, "65536 states behind the entries", b, p)
	refused(t, "65536 states, the last of which lacks a byte", b[:len(b)-1], 0)
	p.states, p.entries = [][]int{{65535, 0, 0, 0}, {0, 0, 0, 0}}, make([]api.Entry, 65536)
	taken(t, "two states and 65536 entries", p.bytes(), p)
}

// P7.2

func TestArguments(t *testing.T) {
	far := []int{math.MinInt, -1 << 32, -65535, -3, -2, -1, 0, 1, 2, 3, 4, 65534, 65535, 65536, 65537, 1 << 31, 1 << 32, 1<<32 + 1, math.MaxInt}
	b := append(simple().bytes(), make([]byte, 8)...)
	zero := simple()
	zero.lookup = words(0, 4, 4, 4)
	for _, glyphs := range far {
		for _, n := range far {
			good, bad := api.OK, api.ErrForm
			if glyphs < 1 || glyphs > 65535 || n < 0 || n > 2 {
				good, bad = api.ErrArg, api.ErrArg
			}
			if m, e := state.Read(b, glyphs, n); e != good || (m != nil) != (good == api.OK) {
				t.Errorf("Read with %d glyphs, %d words: %v, not %v", glyphs, n, e, good)
			}
			if m, e := state.Read(b[:20], glyphs, n); e != bad || m != nil {
				t.Errorf("Read of no machine with %d glyphs, %d words: %v, not %v", glyphs, n, e, bad)
			}
			for _, b := range [][]byte{nil, b, zero.bytes()} {
				view.Try(func() { state.Take(view.Of(b), glyphs, n) }) // it ends, and when it panics it throws
			}
		}
	}
}

// A Machine doesn't hang on its bytes, whichever call made it, and no call changes them.
func TestNothingIsChangedOrKept(t *testing.T) {
	p := five(2)
	b := p.bytes()
	was := bytes.Clone(b)
	one, other := state.Take(view.Of(b), 9, 2), state.Take(view.Of(b), 9, 2)
	read, _ := state.Read(b, 9, 2)
	if !bytes.Equal(b, was) {
		t.Error("the bytes were changed")
	}
	for i := range b {
		b[i] = 0xFF
	}
	for _, m := range []*state.Machine{one, other, read} {
		is(t, "behind a change", m, p)
		if m.Class(2) != 4 || m.Class(3) != 1 || m.Class(4) != 3 {
			t.Error("classes behind a change")
		}
		l := m.Entries()
		for i := range l {
			l[i] = api.Entry{Next: 99}
		}
		_ = append(l[:1], api.Entry{Next: 98})
		is(t, "behind a change of what Entries answered", m, p)
	}
}

// P7.3

func TestConstants(t *testing.T) {
	if state.End != 0 || state.Outside != 1 || state.Gone != 2 || state.Line != 3 || state.MinClasses != 4 {
		t.Error("classes", state.End, state.Outside, state.Gone, state.Line, state.MinClasses)
	}
}

func TestClass(t *testing.T) {
	p := five(0)
	p.lookup = append(words(10, 4, 2, 10), longs(0, 1, 2, 3, 4, 5, 6, 65535, 65536+4, 1<<32-1)...)
	m, e := state.Read(p.bytes(), 9, 0)
	if e != api.OK {
		t.Fatal(e)
	}
	for id, want := range map[int]int{
		2: 0, 3: 1, 4: 2, 5: 3, 6: 4, // what the lookup says, though it be one of the four
		7: 1, 8: 1, 9: 1, 10: 1, 11: 1, // not below Classes
		0: 1, 1: 1, 12: 1, 65534: 1, 65536: 1, // none
		api.Deleted: state.Gone,
		-1:          1, -2: 1, math.MinInt: 1, math.MaxInt: 1, 1<<32 + 6: 1, 1<<16 + 6: 1,
	} {
		if got := m.Class(id); got != want {
			t.Errorf("Class(%d): %d, not %d", id, got, want)
		}
	}
}

// Deleted is gone, whatever the lookup says.
func TestClassOfDeleted(t *testing.T) {
	for class := range 7 {
		for _, l := range [][]byte{words(8, 65534, 2, class, class), words(2, 6, 1, 0, 0, 0, 65535, 65534, class), words(8, 65534, 1, class)} {
			p := five(0)
			p.lookup = l
			m, e := state.Read(p.bytes(), 65535, 0)
			if e != api.OK || m.Class(api.Deleted) != state.Gone {
				t.Errorf("Deleted by the lookup %x: %v", l, e)
			}
			want := class
			if class > 4 {
				want = state.Outside
			}
			if e == api.OK && m.Class(65534) != want {
				t.Errorf("65534 by the lookup %x: %d", l, m.Class(65534))
			}
		}
	}
}

// A glyph that the font hasn't has the class that the lookup gives it.
func TestClassOfGlyphsThatTheFontHasnt(t *testing.T) {
	m, e := state.Read(five(0).bytes(), 1, 0)
	if e != api.OK || m.Class(2) != 4 || m.Class(4) != 3 {
		t.Error("classes", m, e)
	}
}

func TestStepOfNone(t *testing.T) {
	m, _ := state.Read(five(0).bytes(), 9, 0)
	for _, x := range []int{math.MinInt, -1 << 32, -5, -1, 5, 65535, 1 << 32, math.MaxInt} {
		for _, c := range [][2]int{{x, 0}, {1, x}, {x, x}, {x, 4}} {
			if e, ok := m.Step(c[0], c[1]); ok || e != (api.Entry{}) {
				t.Errorf("Step(%d, %d): %v, %v", c[0], c[1], e, ok)
			}
		}
	}
	if e, ok := m.Step(3, 0); ok || e != (api.Entry{}) {
		t.Error("Step from the state behind the last one", e, ok)
	}
	if e, ok := m.Step(0, 5); ok || e != (api.Entry{}) {
		t.Error("Step by the class behind the last one", e, ok)
	}
}

// model: the machine that bytes begin with, found by adding a state or an entry as long as one is asked for; false: there is none.
func model(b []byte, n int) (p plan, ok bool) {
	ok = true
	get := func(at, size int) int {
		if at+size > len(b) {
			ok = false
			return 0
		}
		x := 0
		for _, c := range b[at : at+size] {
			x = x*256 + int(c)
		}
		return x
	}
	p = plan{classes: get(0, 4), words: n}
	at := []int{get(4, 4), get(8, 4), get(12, 4)}
	if !ok || p.classes < 4 || p.classes > 65535 || at[0] > len(b) {
		return plan{}, false
	}
	if _, e := lookup.Read(b[at[0]:], 9, 2); e != api.OK {
		return plan{}, false
	}
	for grown := true; grown && ok; {
		grown = false
		needStates, needEntries := 2, 0
		for _, e := range p.entries {
			needStates = max(needStates, e.Next+1)
		}
		for _, s := range p.states {
			needEntries = max(needEntries, slices.Max(s)+1)
		}
		if i := len(p.states); i < needStates {
			s := make([]int, p.classes)
			for c := range s {
				s[c] = get(at[1]+2*(i*p.classes+c), 2)
			}
			p.states, grown = append(p.states, s), true
		}
		if i := len(p.entries); i < needEntries {
			var w [4]int
			for j := range 2 + n {
				w[j] = get(at[2]+2*(i*(2+n)+j), 2)
			}
			p.entries, grown = append(p.entries, api.Entry{Next: w[0], Flags: w[1], A: w[2], B: w[3]}), true
		}
	}
	return p, ok
}

// Bytes that are nearly a machine: it is one just where the model says so, and then the same.
func TestAnyBytes(t *testing.T) {
	r := rand.New(rand.NewSource(7))
	fine, not := 0, 0
	for range 30000 {
		p := plan{classes: 4 + r.Intn(3), lookup: words(8, r.Intn(9), 2, r.Intn(9), r.Intn(9)), words: r.Intn(3)}
		most := 1 + r.Intn(6)
		for range 2 + r.Intn(5) {
			s := make([]int, p.classes)
			for c := range s {
				s[c] = r.Intn(most)
			}
			p.states = append(p.states, s)
		}
		for range 1 + r.Intn(6) {
			p.entries = append(p.entries, api.Entry{Next: r.Intn(1 + r.Intn(7)), Flags: r.Intn(65536), A: r.Intn(65536), B: r.Intn(65536)})
		}
		b := p.laid(orders[r.Intn(6)], r.Intn(3))
		for range r.Intn(3) {
			b[r.Intn(len(b))] = byte(r.Intn(256) >> r.Intn(8))
		}
		b = b[:len(b)-r.Intn(1+r.Intn(4))]
		want, ok := model(b, p.words)
		m, e := state.Read(b, 9, p.words)
		if !ok {
			not++
			if e != api.ErrForm || m != nil {
				t.Fatalf("Read of %x, %d words: %v, %v", b, p.words, m, e)
			}
			continue
		}
		fine++
		if e != api.OK {
			t.Fatalf("Read of %x, %d words: %v", b, p.words, e)
		}
		if is(t, "any bytes", m, want); t.Failed() {
			t.Fatalf("Read of %x, %d words", b, p.words)
		}
	}
	if fine < 3000 || not < 3000 {
		t.Error("too few were machines, or none", fine, not)
	}
}
