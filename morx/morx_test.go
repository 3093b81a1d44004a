package morx_test

import (
	"bytes"
	"encoding/binary"
	"math"
	"math/rand"
	"slices"
	"testing"

	"swash/api"
	"swash/ctx"
	"swash/feat"
	"swash/ins"
	"swash/liga"
	"swash/line"
	"swash/morx"
	"swash/pick"
	"swash/rear"
	"swash/swap"
	"swash/view"
)

const (
	stay      = 0x4000
	none      = 0xFFFF
	gone      = api.Deleted
	fits      = 9 // glyphs of the tests' font
	plenty    = 1 << 20
	vertical  = 0x80000000
	backwards = 0x40000000
	both      = 0x20000000
	logical   = 0x10000000
	all       = 0xFFFFFFFF // flags that always ask for a subtable
)

// words, longs: each one's two, or four, bytes.
func words(l ...int) []byte {
	var b []byte
	for _, n := range l {
		b = binary.BigEndian.AppendUint16(b, uint16(n))
	}
	return b
}

func longs(l ...int) []byte {
	var b []byte
	for _, n := range l {
		b = binary.BigEndian.AppendUint32(b, uint32(n))
	}
	return b
}

// part: a subtable.
type part struct {
	cover, flags int
	data         []byte
}

// links: a chain; its rules are bytes.
type links struct {
	first int
	rules [][]byte
	parts []part
}

func rule(kind, value, enable, disable int) []byte {
	return slices.Concat(words(kind, value), longs(enable, disable))
}

// table: a table's bytes of some chains.
func table(chains ...links) []byte {
	b := slices.Concat(words(2, 0), longs(len(chains)))
	for _, c := range chains {
		behind := slices.Concat(c.rules...)
		for _, p := range c.parts {
			behind = slices.Concat(behind, longs(12+len(p.data), p.cover, p.flags), p.data)
		}
		b = slices.Concat(b, longs(c.first, 16+len(behind), len(c.rules), len(c.parts)), behind)
	}
	return b
}

// always: a chain all of whose subtables are asked for.
func always(parts ...part) links { return links{first: 1, parts: parts} }

// of: a subtable that is always asked for, of lines to the right and to the left.
func of(kind int, data []byte) part { return part{kind, all, data} }

// machine: a machine's bytes, with room for more places, that does an entry for each of its steps, whatever the glyphs; the last one again for all behind.
func machine(room int, entries ...[]int) []byte {
	var states, rows []byte
	for i, e := range entries {
		states = append(states, words(i, i, i, i)...)
		rows = append(rows, words(append([]int{min(i+1, len(entries)-1)}, e...)...)...)
	}
	states = append(states, make([]byte, 8)...)
	at := 16 + room
	return slices.Concat(longs(4, at, at+6, at+6+len(states)), make([]byte, room), words(8, 0, 0), states, rows)
}

// turns: the first two glyphs change places.
func turns() []byte { return machine(0, []int{0x8000}, []int{0x2001}, []int{0}) }

// marks: the glyph ahead of the second one becomes one that is ten more, if it is below 50.
func marks() []byte {
	b := machine(4, []int{0x8000, none, none}, []int{0, 0, none}, []int{0, none, none})
	binary.BigEndian.PutUint32(b[16:], uint32(len(b)))
	return slices.Concat(b, longs(4), words(8, 0, 50), tens(10, 50))
}

// tens: so many numbers from one on.
func tens(from, n int) []byte {
	var b []byte
	for i := range n {
		b = append(b, words(from+i)...)
	}
	return b
}

// joins: the first two glyphs become one, 40 more than both together, and a deleted one.
func joins() []byte {
	b := machine(12, []int{0x8000, 0}, []int{0xA000, 0}, []int{0, 0})
	at := len(b)
	for i, place := range []int{at, at + 8, at + 8 + 2*100} {
		binary.BigEndian.PutUint32(b[16+4*i:], uint32(place))
	}
	return slices.Concat(b, longs(0, 0x80000000), tens(0, 100), tens(40, 200))
}

// puts: so many glyphs, from 70 on, behind the first one.
func puts(n int) []byte {
	b := machine(4, []int{n << 5, 0, none}, []int{0, none, none})
	binary.BigEndian.PutUint32(b[16:], uint32(len(b)))
	return append(b, tens(70, n)...)
}

// gives: glyphs from one on become these.
func gives(from int, ids ...int) []byte {
	return append(words(8, from, len(ids)), words(ids...)...)
}

// rests: a machine that rests without an end, behind the step that does something.
func rests(step ...int) []byte { return machine(0, step, []int{stay}) }

// read: the table that bytes are.
func read(t *testing.T, b []byte) *morx.Table {
	t.Helper()
	x, e := morx.Read(b, fits)
	if e != api.OK || x == nil {
		t.Fatal("a test's table:", e)
	}
	return x
}

func idsOf(b *line.Line) []int {
	var l []int
	for _, g := range b.Glyphs() {
		l = append(l, g.ID)
	}
	return l
}

func taken(t *testing.T, what string, b []byte, glyphs int) {
	t.Helper()
	if x, e := morx.Read(b, glyphs); x == nil || e != api.OK {
		t.Errorf("Read of %s: %v, %v", what, x, e)
	}
	var x *morx.Table
	if !view.Try(func() { x = morx.Take(view.Of(b), glyphs) }) || x == nil {
		t.Errorf("Take of %s throws", what)
	}
}

func refused(t *testing.T, what string, b []byte, glyphs int) {
	t.Helper()
	if x, e := morx.Read(b, glyphs); x != nil || e != api.ErrForm {
		t.Errorf("Read of %s: %v, %v", what, x, e)
	}
	if view.Try(func() { morx.Take(view.Of(b), glyphs) }) {
		t.Errorf("Take of %s doesn't throw", what)
	}
}

// ran: of some glyphs, along a direction, some chains make others, whatever is set.
func ran(t *testing.T, what string, direction int, ids, want []int, chains ...links) {
	t.Helper()
	b := line.New(ids...)
	if f := read(t, table(chains...)).Run(b, nil, direction, plenty); f != (api.Fault{}) || !slices.Equal(idsOf(b), want) {
		t.Errorf("%s: %v, %v, not %v", what, idsOf(b), f, want)
	}
}

// ended: likewise, where a Fault ends it.
func ended(t *testing.T, what string, direction, left int, ids, want []int, fault api.Fault, chains ...links) {
	t.Helper()
	b := line.New(ids...)
	if f := read(t, table(chains...)).Run(b, nil, direction, left); f != fault || !slices.Equal(idsOf(b), want) {
		t.Errorf("%s: %v, %v, not %v, %v", what, idsOf(b), f, want, fault)
	}
}

func TestConstants(t *testing.T) {
	if morx.Rear != 0 || morx.Ctx != 1 || morx.Liga != 2 || morx.Swap != 4 || morx.Ins != 5 {
		t.Error("constants", morx.Rear, morx.Ctx, morx.Liga, morx.Swap, morx.Ins)
	}
}

// P20.1

// kinds: of each kind a subtable that is just long enough.
func kinds() map[int][]byte {
	ligature := joins()
	ligature = ligature[:len(ligature)-2*(100+200)] // its components and ligatures, which then stand at its beginning
	copy(ligature[20:28], longs(0, 0))
	return map[int][]byte{morx.Rear: turns(), morx.Ctx: marks(), morx.Liga: ligature, morx.Swap: gives(4, 14, 15), morx.Ins: puts(2)}
}

// A subtable is one of its kind's layer, within its own bytes; there may be more of these behind.
func TestSubtables(t *testing.T) {
	for kind, data := range kinds() {
		good := of(morx.Swap, gives(0, 1, 2, 3, 4, 5, 6))
		for _, cover := range []int{kind, kind | 0xFFFFFF00, kind | 0x100, kind | vertical, kind | backwards} {
			for _, flags := range []int{0, 1, all} {
				p := part{cover, flags, data}
				taken(t, "a subtable", table(always(p)), fits)
				taken(t, "a subtable behind others", table(always(good), always(good, p, good)), fits)
				p.data = slices.Concat(data, []byte{0xFF, 0xFF, 0xFF})
				taken(t, "a subtable of more bytes", table(always(p)), fits)
				for _, n := range []int{0, 1, len(data) / 2, len(data) - 1} {
					p.data = data[:n]
					refused(t, "a subtable of fewer bytes", table(always(p)), fits)
					refused(t, "a subtable of fewer bytes behind others", table(always(good), always(good, p, good)), fits)
				}
			}
		}
	}
	// one that is good for another kind
	refused(t, "a machine as a lookup", table(always(of(morx.Swap, slices.Concat(words(3), turns())))), fits)
	refused(t, "a lookup as a machine", table(always(of(morx.Rear, gives(0, make([]int, 100)...)))), fits)
}

// One of another kind is any bytes, and does nothing.
func TestOtherKinds(t *testing.T) {
	for kind := range 256 {
		if _, ok := kinds()[kind]; ok {
			continue
		}
		for _, data := range [][]byte{nil, {1}, turns(), gives(4, 5), make([]byte, 100)} {
			for _, cover := range []int{kind, kind | backwards, kind | vertical | both} {
				chains := always(of(cover, data), of(morx.Swap, gives(4, 14)), of(cover, data))
				taken(t, "a subtable of another kind", table(chains), fits)
				ran(t, "a subtable of another kind", api.Right, []int{4, 5, gone}, []int{14, 5}, chains)
				ran(t, "a subtable of another kind, to the left", api.Left, []int{4, 5, gone}, []int{14, 5}, chains)
			}
		}
	}
}

func TestReadOfNoTable(t *testing.T) {
	b := table(always(of(morx.Rear, turns()), of(morx.Swap, gives(4, 5))), always(of(morx.Ins, puts(1))))
	taken(t, "a table", b, fits)
	for n := range b {
		refused(t, "less than a table", b[:n], fits)
	}
	taken(t, "more than a table", append(slices.Clone(b), 0xFF), fits)
	binary.BigEndian.PutUint16(b, 1)
	refused(t, "another version", b, fits)
	binary.BigEndian.PutUint16(b, 3)
	taken(t, "a version that may be", b, fits)
	taken(t, "no chains", table(), fits)
	taken(t, "a chain of nothing", table(links{}), fits)
}

func TestReadOfWrongArguments(t *testing.T) {
	b := table(always(of(morx.Swap, gives(4, 5)), of(morx.Rear, turns())))
	for _, glyphs := range []int{0, -1, -65535, 65536, 1<<32 + 1, math.MinInt, math.MaxInt} {
		for _, b := range [][]byte{b, table(), nil, {1}} {
			if x, e := morx.Read(b, glyphs); x != nil || e != api.ErrArg {
				t.Errorf("Read of %d bytes, %d glyphs: %v, %v", len(b), glyphs, x, e)
			}
		}
	}
	for _, glyphs := range []int{1, 2, fits, 65534, 65535} {
		taken(t, "a number of glyphs that may be", b, glyphs)
		refused(t, "no bytes", nil, glyphs)
	}
}

// A lookup of a number for each glyph, which each kind may have, has as many as the font has glyphs.
func TestGlyphsOfTheFont(t *testing.T) {
	for kind, data := range kinds() {
		of5 := words(0, 1, 1, 1, 1, 1)
		b := slices.Clone(data)
		if kind == morx.Swap {
			b = of5
		} else {
			binary.BigEndian.PutUint32(b[4:], uint32(len(b)))
			b = append(b, of5...)
		}
		for glyphs := 1; glyphs < 9; glyphs++ {
			if glyphs <= 5 {
				taken(t, "a lookup of five glyphs", table(always(of(kind, b))), glyphs)
			} else {
				refused(t, "a lookup of five glyphs", table(always(of(kind, b))), glyphs)
			}
		}
	}
}

// everything: a table of each kind, and what it makes of 4, 5, 6, 7.
func everything() ([]byte, []int) {
	b := table(
		always(of(morx.Rear, turns()), of(morx.Ctx, marks()), of(morx.Ins, puts(2))),
		always(of(morx.Swap, gives(4, 14)), of(morx.Liga, joins())),
	)
	// 5 4 6 7; 15 4 6 7; 15 70 71 4 6 7; 15 70 71 14 6 7; 15 and 70 together
	return b, []int{125, 71, 14, 6, 7}
}

func TestTake(t *testing.T) {
	b, want := everything()
	v := view.Of(slices.Concat([]byte{0, 2, 0}, b))
	var x *morx.Table
	if !view.Try(func() { x = morx.Take(v.Rest(3), fits) }) || x == nil {
		t.Fatal("Take throws")
	}
	l := line.New(4, 5, 6, 7)
	if f := x.Run(l, nil, api.Right, plenty); f != (api.Fault{}) || !slices.Equal(idsOf(l), want) {
		t.Error("Run", l.Glyphs(), f)
	}
	if view.Try(func() { morx.Take(view.View{}, fits) }) {
		t.Error("Take of no bytes doesn't throw")
	}
}

// The font's bytes aren't changed, and Read doesn't keep them; nor does a run leave anything behind in the table.
func TestBytesAreNotKept(t *testing.T) {
	b, want := everything()
	was := bytes.Clone(b)
	x := read(t, b)
	x.Run(line.New(4, 5, 6, 7), nil, api.Right, plenty)
	morx.Take(view.Of(b), fits).Run(line.New(4, 5, 6, 7), nil, api.Right, plenty)
	if !bytes.Equal(b, was) {
		t.Errorf("the bytes were changed: %x", b)
	}
	for _, n := range []byte{0, 0xFF} {
		for i := range b {
			b[i] = n
		}
		l := line.New(4, 5, 6, 7)
		if f := x.Run(l, nil, api.Right, 2); f != (api.Fault{}) || !slices.Equal(idsOf(l), want) {
			t.Error("Run behind a change of the bytes", l.Glyphs(), f)
		}
		if l := x.Flags(nil); !slices.Equal(l, []uint32{1, 1}) {
			t.Error("Flags behind a change of the bytes", l)
		}
	}
}

func TestNoChains(t *testing.T) {
	for _, x := range []*morx.Table{{}, read(t, table())} {
		if l := x.Flags([]api.Setting{{Type: 1, Value: 2}}); len(l) != 0 {
			t.Error("Flags of no chains", l)
		}
		for _, direction := range []int{api.Right, api.Left, api.Down, 3, -1} {
			b := line.Of([]api.Glyph{{ID: 5, Cluster: 7}, {ID: gone, Cluster: 3}, {ID: 4, Cluster: 2}})
			if f := x.Run(b, nil, direction, 0); f != (api.Fault{}) || !slices.Equal(b.Glyphs(), []api.Glyph{{ID: 5, Cluster: 7}, {ID: 4, Cluster: 2}}) {
				t.Error("Run of no chains", b.Glyphs(), f)
			}
		}
	}
}

// P20.2

func TestFlags(t *testing.T) {
	x := read(t, table(
		links{first: 0x80000001, rules: [][]byte{rule(1, 2, 4, 0xFFFFFFFE), rule(1, 4, 8, 0xFFFFFFFF)}},
		links{first: 7},
		links{first: 3, rules: [][]byte{rule(1, 4, 0x80000000, 0), rule(65535, 65535, 1, 0xFFFFFFFF)}},
	))
	for _, c := range []struct {
		l    []api.Setting
		want []uint32
	}{
		{nil, []uint32{0x80000001, 7, 3}},
		{[]api.Setting{{Type: 2, Value: 1}}, []uint32{0x80000001, 7, 3}},
		{[]api.Setting{{Type: 1, Value: 2}}, []uint32{0x80000004, 7, 3}},
		{[]api.Setting{{Type: 1, Value: 4}}, []uint32{0x80000009, 7, 0x80000000}},
		{[]api.Setting{{Type: 1, Value: 4}, {Type: 1, Value: 2}, {Type: 65535, Value: 65535}}, []uint32{0x8000000C, 7, 0x80000001}},
		{[]api.Setting{{Type: 1, Value: 4}, {Type: 1, Value: 5}}, []uint32{0x80000001, 7, 3}},
	} {
		settled := pick.Settle(c.l, nil)
		was := slices.Clone(settled)
		got := x.Flags(settled)
		if !slices.Equal(got, c.want) {
			t.Errorf("Flags of %v: %x, not %x", c.l, got, c.want)
		}
		clear(got)
		if again := x.Flags(settled); !slices.Equal(again, c.want) {
			t.Errorf("Flags of %v again: %x, not %x", c.l, again, c.want)
		}
		if !slices.Equal(settled, was) {
			t.Error("the settings were changed", settled)
		}
	}
}

// P20.3

func TestEachKind(t *testing.T) {
	ids := []int{4, 5, 6}
	ran(t, "Rear", api.Right, ids, []int{5, 4, 6}, always(of(morx.Rear, turns())))
	ran(t, "Ctx", api.Right, ids, []int{14, 5, 6}, always(of(morx.Ctx, marks())))
	ran(t, "Liga", api.Right, ids, []int{49, 6}, always(of(morx.Liga, joins())))
	ran(t, "Swap", api.Right, ids, []int{14, 15, 6}, always(of(morx.Swap, gives(4, 14, 15))))
	ran(t, "Ins", api.Right, ids, []int{4, 70, 71, 72, 5, 6}, always(of(morx.Ins, puts(3))))
	b, want := everything()
	l := line.New(4, 5, 6, 7)
	if f := read(t, b).Run(l, nil, api.Right, 2); f != (api.Fault{}) || !slices.Equal(idsOf(l), want) {
		t.Error("one of each kind", l.Glyphs(), f)
	}
}

// Chain by chain, subtable by subtable.
func TestInOrder(t *testing.T) {
	one, two, three := of(morx.Swap, gives(4, 5)), of(morx.Swap, gives(5, 6)), of(morx.Swap, gives(6, 7))
	for _, c := range []struct {
		l    []part
		want []int
	}{
		{[]part{one, two, three}, []int{7, 7, 7}}, {[]part{one, three, two}, []int{6, 6, 7}}, {[]part{two, one, three}, []int{5, 7, 7}},
		{[]part{two, three, one}, []int{5, 7, 7}}, {[]part{three, one, two}, []int{6, 6, 7}}, {[]part{three, two, one}, []int{5, 6, 7}},
	} {
		ids := []int{4, 5, 6}
		ran(t, "one chain", api.Right, ids, c.want, always(c.l...))
		ran(t, "three chains", api.Right, ids, c.want, always(c.l[0]), always(c.l[1]), always(c.l[2]))
		ran(t, "two chains", api.Right, ids, c.want, always(c.l[0]), always(c.l[1], c.l[2]))
		ran(t, "chains, one of nothing", api.Right, ids, c.want, always(c.l[0], c.l[1]), always(), always(c.l[2]))
	}
}

// One runs whose flags have a bit that its own chain's have.
func TestWhichFlags(t *testing.T) {
	for _, c := range []struct {
		first, flags int
		runs         bool
	}{{1, 1, true}, {1, 2, false}, {3, 2, true}, {2, 3, true}, {0, all, false}, {all, 0, false}, {0, 0, false}, {0x80000000, 0x80000000, true}, {0x80000000, 0x7FFFFFFF, false}, {all, 0x80000000, true}, {6, 9, false}, {6, 12, true}} {
		x := part{morx.Swap, c.flags, gives(4, 14)}
		want := map[bool][]int{true: {14}, false: {4}}[c.runs]
		ran(t, "a chain's flags", api.Right, []int{4}, want, links{first: c.first, parts: []part{x}})
		ran(t, "a chain's flags, among others", api.Right, []int{4}, want, links{first: c.flags}, links{first: c.first, parts: []part{x}}, links{first: c.flags})
	}
}

// Which ones run hangs on the settings that are on.
func TestSettings(t *testing.T) {
	x := read(t, table(
		links{first: 1, rules: [][]byte{rule(1, 2, 2, 0xFFFFFFFE), rule(3, 1, 4, 0xFFFFFFFF)}, parts: []part{{morx.Swap, 1, gives(4, 14)}, {morx.Swap, 2, gives(4, 24)}, {morx.Swap, 4, gives(5, 15)}}},
		links{rules: [][]byte{rule(3, 1, 1, 0)}, parts: []part{{morx.Swap, 1, gives(6, 16)}}},
	))
	alone := []feat.Feature{{Type: 3, Exclusive: true, Default: -1}}
	for _, c := range []struct {
		l    []api.Setting
		want []int
	}{
		{nil, []int{14, 5, 6}}, {[]api.Setting{{Type: 1, Value: 2}}, []int{24, 5, 6}}, {[]api.Setting{{Type: 1, Value: 2}, {Type: 1, Value: 3}}, []int{14, 5, 6}}, {[]api.Setting{{Type: 3, Value: 1}}, []int{14, 15, 16}},
		{[]api.Setting{{Type: 3, Value: 1}, {Type: 1, Value: 2}}, []int{24, 15, 16}}, {[]api.Setting{{Type: 3, Value: 1}, {Type: 3, Value: 8}}, []int{14, 5, 6}},
	} {
		settled := pick.Settle(c.l, alone)
		was := slices.Clone(settled)
		b := line.New(4, 5, 6)
		if f := x.Run(b, settled, api.Right, 0); f != (api.Fault{}) || !slices.Equal(idsOf(b), c.want) {
			t.Errorf("settings %v: %v, %v, not %v", c.l, idsOf(b), f, c.want)
		}
		if !slices.Equal(settled, was) {
			t.Error("the settings were changed", settled)
		}
	}
}

// For which directions one runs, and from which end of the line on.
func TestDirections(t *testing.T) {
	ids := []int{4, 5, 6}
	first, last := []int{14, 5, 6}, []int{4, 5, 16}
	for _, c := range []struct {
		cover             int
		right, left, down []int
	}{
		{0, first, last, ids}, {backwards, last, first, ids}, {logical, first, first, ids}, {backwards | logical, last, last, ids},
		{vertical, ids, ids, first}, {vertical | backwards, ids, ids, last}, {vertical | logical, ids, ids, first}, {vertical | backwards | logical, ids, ids, last},
		{both, first, last, first}, {both | backwards, last, first, last}, {both | vertical, first, last, first}, {both | logical, first, first, first}, {both | backwards | logical | vertical, last, last, last},
		{0x0FFFFF00, first, last, ids},
	} {
		x := always(of(c.cover|morx.Ctx, marks()))
		ran(t, "Right", api.Right, ids, c.right, x)
		ran(t, "Left", api.Left, ids, c.left, x)
		ran(t, "Down", api.Down, ids, c.down, x)
		for _, direction := range []int{3, -1, 256, math.MinInt, math.MaxInt, 1 << 32, 1<<32 + 1} {
			ran(t, "no direction", direction, []int{4, gone, 5, 6}, ids, x)
		}
	}
}

// Each kind of those that are turned, and each by itself.
func TestTurned(t *testing.T) {
	ids := []int{4, 5, 6}
	ran(t, "Rear", api.Left, ids, []int{4, 6, 5}, always(of(morx.Rear, turns())))
	ran(t, "Ctx", api.Left, ids, []int{4, 5, 16}, always(of(morx.Ctx, marks())))
	ran(t, "Liga", api.Left, ids, []int{4, 51}, always(of(morx.Liga, joins())))
	ran(t, "Swap", api.Left, ids, []int{14, 15, 6}, always(of(morx.Swap, gives(4, 14, 15))))
	ran(t, "Ins", api.Left, ids, []int{4, 5, 72, 71, 70, 6}, always(of(morx.Ins, puts(3))))
	there, back := of(morx.Ctx, marks()), of(morx.Ctx|backwards, marks())
	ran(t, "one there, one back", api.Right, ids, []int{14, 5, 16}, always(there, back))
	ran(t, "two there, one back", api.Right, ids, []int{24, 5, 16}, always(there, back, there))
	ran(t, "two back, one there", api.Right, ids, []int{14, 5, 26}, always(back), always(there, back))
	ran(t, "two back, one there, to the left", api.Left, ids, []int{24, 5, 16}, always(back), always(there, back))
}

// Clusters go with the glyphs, and are the least of a ligature's parts.
func TestClusters(t *testing.T) {
	x := read(t, table(always(of(morx.Ins|backwards, puts(2)), of(morx.Liga, joins()))))
	b := line.Of([]api.Glyph{{ID: 4, Cluster: 7}, {ID: 5, Cluster: 3}, {ID: 6, Cluster: 9}})
	want := []api.Glyph{{ID: 49, Cluster: 3}, {ID: 71, Cluster: 3}, {ID: 70, Cluster: 3}, {ID: 6, Cluster: 9}}
	if f := x.Run(b, nil, api.Right, 2); f != (api.Fault{}) || !slices.Equal(b.Glyphs(), want) {
		t.Error("clusters", b.Glyphs(), f)
	}
}

// The line is cleaned behind the last subtable, not ahead: what was deleted has places up to then.
func TestClean(t *testing.T) {
	rear, ligature := of(morx.Rear, turns()), of(morx.Liga, joins())
	ran(t, "a deleted one changes places", api.Right, []int{4, gone, 6}, []int{4, 6}, always(rear))
	ran(t, "a deleted one changes places, and then the next one", api.Right, []int{4, gone, 6}, []int{4, 6}, always(rear, rear))
	ran(t, "a ligature's part changes places", api.Right, []int{4, 5, 6}, []int{49, 6}, always(ligature, rear))
	ran(t, "a ligature's part, in the next chain", api.Right, []int{4, 5, 6}, []int{59, 6}, always(ligature), always(of(morx.Swap, gives(49, 59)), rear))
	ran(t, "a mark upon a ligature, at its part", api.Right, []int{1, 2, 6}, []int{53, 6}, always(of(morx.Swap, gives(0, 0, 0, 3)), ligature, of(morx.Swap, gives(43, 43)), of(morx.Ctx, marks())))
	ran(t, "a deleted one comes from a lookup", api.Right, []int{4, 5, 6}, []int{5}, always(of(morx.Swap, gives(4, gone, 5, gone))))
	ran(t, "one that doesn't run cleans, too", api.Down, []int{gone, 4, gone, gone}, []int{4}, always(rear))
	ran(t, "nothing is left", api.Right, []int{gone, gone}, nil, always(rear))
	ran(t, "no line", api.Right, nil, nil, always(rear, ligature, of(morx.Swap, gives(4, 5))))
}

// All that was put ahead, in each chain, is less that may be put.
func TestLeft(t *testing.T) {
	three := of(morx.Ins, puts(3))
	ids := []int{4}
	once := []int{4, 70, 71, 72}
	twice := []int{4, 70, 71, 72, 70, 71, 72}
	over := func(chain, sub int) api.Fault { return api.Fault{Code: api.ErrBudget, Chain: chain, Sub: sub} }
	// in the later chains another glyph comes first, and three are put behind that
	other := of(morx.Rear, turns())
	chains := []links{always(three), always(other, three), always(other, three)}
	ended(t, "three put nine", api.Right, 9, ids, []int{4, 70, 71, 72, 70, 71, 72, 70, 71, 72}, api.Fault{}, always(three, three, three))
	for _, left := range []int{math.MinInt, math.MinInt + 2, -1, 0, 1, 2} {
		ended(t, "one, of too few", api.Right, left, ids, ids, over(0, 0), always(three, three, three))
		ended(t, "none put any", api.Right, left, ids, []int{14}, api.Fault{}, always(of(morx.Swap, gives(4, 14)), of(morx.Ins, puts(0))))
	}
	for _, left := range []int{3, 4, 5} {
		ended(t, "two, of too few", api.Right, left, ids, once, over(0, 1), always(three, three, three))
	}
	for _, left := range []int{6, 7, 8} {
		ended(t, "three, of too few", api.Right, left, ids, twice, over(0, 2), always(three, three, three))
		ended(t, "three chains, of too few", api.Right, left, ids, []int{70, 70, 71, 72, 4, 71, 72}, over(2, 1), chains...)
	}
	for _, left := range []int{9, 10, plenty, math.MaxInt} {
		ended(t, "three chains", api.Right, left, ids, []int{70, 70, 71, 72, 70, 71, 72, 4, 71, 72}, api.Fault{}, chains...)
	}
	for _, left := range []int{3, 4, 5} {
		ended(t, "two chains, of too few", api.Right, left, ids, []int{70, 4, 71, 72}, over(1, 1), chains...)
	}
	// those that don't run put none
	ended(t, "one of another direction", api.Right, 3, ids, once, api.Fault{}, always(of(morx.Ins|vertical, puts(3)), three))
	ended(t, "one that isn't asked for", api.Right, 3, ids, once, api.Fault{}, links{first: 1, parts: []part{{morx.Ins, 2, puts(3)}, {morx.Ins, 3, puts(3)}}})
	// what is left is each call's own
	x := read(t, table(always(three)))
	for range 3 {
		l := line.New(4)
		if f := x.Run(l, nil, api.Right, 3); f != (api.Fault{}) || !slices.Equal(idsOf(l), once) {
			t.Error("a run again", l.Glyphs(), f)
		}
	}
}

// The first error ends it; the numbers count chains, and subtables, that don't run, too.
func TestFaults(t *testing.T) {
	bad, fine, other := of(morx.Rear, rests(0)), of(morx.Swap, gives(4, 14)), of(3, nil)
	late := of(morx.Swap, gives(5, 15))
	ids, want := []int{4, 5, 6}, []int{14, 5, 6}
	fault := func(chain, sub int) api.Fault { return api.Fault{Code: api.ErrBudget, Chain: chain, Sub: sub} }
	ended(t, "the first one", api.Right, 0, ids, ids, fault(0, 0), always(bad, fine), always(late))
	ended(t, "the second one", api.Right, 0, ids, want, fault(0, 1), always(fine, bad, late), always(late))
	ended(t, "the first one of the second chain", api.Right, 0, ids, want, fault(1, 0), always(fine), always(bad, late), always(late, bad))
	ended(t, "behind a chain of nothing", api.Right, 0, ids, want, fault(2, 1), always(fine), always(), always(other, bad, late))
	ended(t, "behind one of another direction", api.Right, 0, ids, want, fault(0, 2), always(fine, of(morx.Rear|vertical, rests(0)), bad, late))
	ended(t, "behind ones that aren't asked for", api.Right, 0, ids, want, fault(1, 3), links{parts: []part{bad}}, links{first: 1, parts: []part{fine, {morx.Rear, 2, rests(0)}, {morx.Rear, 0, rests(0)}, bad, late}})
	ended(t, "none of those that run", api.Down, 0, ids, ids, api.Fault{}, always(bad, fine, late))
	for _, kind := range []int{morx.Rear, morx.Ctx, morx.Liga, morx.Ins} {
		b := machine(12, []int{stay, none, none}, []int{stay, none, none})
		switch kind {
		case morx.Rear:
			b = rests(0)
		case morx.Liga:
			b = machine(12, []int{stay, 0}, []int{stay, 0})
		}
		ended(t, "one of each kind", api.Right, plenty, ids, want, fault(0, 1), always(fine, of(kind, b), late))
	}
}

// What was done ahead of an error stays, the line is turned again, and it isn't cleaned.
func TestLineBesideAFault(t *testing.T) {
	// ahead of its rests it turns the first two glyphs
	bad := machine(0, []int{0x8000}, []int{0x2001}, []int{stay})
	fault := api.Fault{Code: api.ErrBudget, Chain: 0, Sub: 1}
	fine := of(morx.Swap, gives(7, 17))
	ids := []int{4, 5, gone, 6, 7}
	ended(t, "to the right", api.Right, 0, ids, []int{5, 4, gone, 6, 17}, fault, always(fine, of(morx.Rear, bad)))
	ended(t, "to the left", api.Left, 0, ids, []int{4, 5, gone, 17, 6}, fault, always(fine, of(morx.Rear, bad)))
	ended(t, "to the right, backwards", api.Right, 0, ids, []int{4, 5, gone, 17, 6}, fault, always(fine, of(morx.Rear|backwards, bad)))
	ended(t, "to the left, with too few left", api.Left, 2, ids, ids, api.Fault{Code: api.ErrBudget}, always(of(morx.Ins, puts(3))))
	ended(t, "to the left, with too few left behind one", api.Left, 2, ids, []int{4, 5, gone, 6, 71, 70, 7}, api.Fault{Code: api.ErrBudget, Sub: 1}, always(of(morx.Ins, puts(2)), of(morx.Ins, puts(1))))
}

func TestLongLine(t *testing.T) {
	const n = 65536
	b := line.New(slices.Repeat([]int{4, gone}, n/2)...)
	chains := []links{}
	for range 20 {
		chains = append(chains, always(of(morx.Rear, turns()), of(morx.Ctx|backwards, marks()), of(morx.Liga|backwards, joins()), of(morx.Swap, gives(4, 4)), of(morx.Ins|backwards, puts(1))))
	}
	if f := read(t, table(chains...)).Run(b, nil, api.Left, 20); f != (api.Fault{}) || b.Len() < n/2 || slices.Contains(idsOf(b), gone) {
		t.Error("a long line", b.Len(), f)
	}
}

// Two hold one table at once, and neither is told of the other.
func TestAtOnce(t *testing.T) {
	b, want := everything()
	x := read(t, b)
	done := make(chan []int)
	for range 8 {
		go func() {
			l := line.New(4, 5, 6, 7)
			x.Run(l, nil, api.Right, plenty)
			done <- idsOf(l)
		}()
	}
	for range 8 {
		if ids := <-done; !slices.Equal(ids, want) {
			t.Error("Run at once", ids)
		}
	}
}

// modelled: a run as the document says, by the layers' own calls.
func modelled(chains []links, b *line.Line, settled []api.Setting, direction, left int) api.Fault {
	for i, c := range chains {
		flags := uint32(c.first)
		for _, r := range c.rules {
			if slices.Contains(settled, api.Setting{Type: int(r[0])<<8 + int(r[1]), Value: int(r[2])<<8 + int(r[3])}) {
				flags = flags&binary.BigEndian.Uint32(r[8:]) | binary.BigEndian.Uint32(r[4:])
			}
		}
		for k, p := range c.parts {
			fits := (p.cover&vertical != 0) == (direction == 2) || p.cover&both != 0
			if uint32(p.flags)&flags == 0 || direction < 0 || direction > 2 || !fits {
				continue
			}
			turned := p.cover&backwards != 0
			if p.cover&logical == 0 && direction == 1 {
				turned = !turned
			}
			if turned {
				b.Turn()
			}
			n, e := alone(p, b, left)
			left -= n
			if turned {
				b.Turn()
			}
			if e != api.OK {
				return api.Fault{Code: e, Chain: i, Sub: k}
			}
		}
	}
	b.Clean()
	return api.Fault{}
}

// alone: what a subtable does to a line by its layer.
func alone(p part, b *line.Line, left int) (n int, e api.Errno) {
	switch p.cover % 256 {
	case 0:
		x, _ := rear.Read(p.data, fits)
		e = x.Run(b)
	case 1:
		x, _ := ctx.Read(p.data, fits)
		e = x.Run(b)
	case 2:
		x, _ := liga.Read(p.data, fits)
		e = x.Run(b)
	case 4:
		x, _ := swap.Read(p.data, fits)
		e = x.Run(b)
	case 5:
		x, _ := ins.Read(p.data, fits)
		n, e = x.Run(b, left)
	}
	return n, e
}

// some: chains of any kinds.
func some(r *rand.Rand) []links {
	bits := func() int { return r.Intn(4) | r.Intn(2)<<31 }
	chains := make([]links, r.Intn(4))
	for i := range chains {
		chains[i].first = bits() | r.Intn(2)
		for range r.Intn(3) {
			chains[i].rules = append(chains[i].rules, rule(r.Intn(2), r.Intn(4), bits(), int(^r.Uint32()&^0xF)|r.Intn(16)))
		}
		for range r.Intn(5) {
			of := []func() []byte{turns, marks, joins, func() []byte { return make([]byte, r.Intn(9)) }, func() []byte { return gives(r.Intn(9), 4, 5, gone, 6) }, func() []byte { return puts(r.Intn(5)) }, func() []byte { return nil }}
			kind := r.Intn(len(of))
			p := part{kind | r.Intn(16)<<28, bits() | r.Intn(4), of[kind]()}
			if r.Intn(4) > 0 {
				p.cover &^= vertical
			}
			if kind == morx.Rear && r.Intn(6) == 0 {
				p.data = machine(0, []int{0x8000}, []int{0x2001}, []int{stay})
			}
			chains[i].parts = append(chains[i].parts, p)
		}
	}
	return chains
}

func TestAnyRuns(t *testing.T) {
	r := rand.New(rand.NewSource(20))
	fine, not, changed := 0, 0, 0
	for range 20000 {
		chains := some(r)
		var l []api.Glyph
		for range r.Intn(8) {
			l = append(l, api.Glyph{ID: []int{r.Intn(10), 4 + r.Intn(4), gone}[r.Intn(3)], Cluster: r.Intn(9)})
		}
		var asked []api.Setting
		for range r.Intn(4) {
			asked = append(asked, api.Setting{Type: r.Intn(2), Value: r.Intn(4)})
		}
		settled := pick.Settle(asked, []feat.Feature{{Type: 1, Exclusive: true}})
		direction, left := r.Intn(13)/4, []int{plenty, r.Intn(8) - 1}[r.Intn(2)]
		x, y := line.Of(l), line.Of(l)
		want := modelled(chains, y, settled, direction, left)
		if f := read(t, table(chains...)).Run(x, settled, direction, left); f != want || !slices.Equal(x.Glyphs(), y.Glyphs()) {
			t.Fatalf("a run of %v along %v to %d, with %v, and %d left: %v, %v, not %v, %v", chains, l, direction, settled, left, x.Glyphs(), f, y.Glyphs(), want)
		}
		if want == (api.Fault{}) {
			fine++
		} else {
			not++
		}
		if !slices.Equal(l, y.Glyphs()) {
			changed++
		}
	}
	if fine < 3000 || not < 1000 || changed < 3000 {
		t.Error("too few runs came to their ends, or none, or changed glyphs", fine, not, changed)
	}
}

// P1: whatever bytes there are, Read ends, and so does a run of what it answers.
func TestAnyBytes(t *testing.T) {
	r := rand.New(rand.NewSource(120))
	ran := 0
	for range 20000 {
		b := table(some(r)...)
		for range 1 + r.Intn(3) {
			b[r.Intn(len(b))] = byte([]int{r.Intn(256), r.Intn(9), 0, 0xFF}[r.Intn(4)])
		}
		x, e := morx.Read(b, 1+r.Intn(12))
		if (x == nil) != (e != api.OK) || e != api.OK && e != api.ErrForm {
			t.Fatalf("Read of %x: %v, %v", b, x, e)
		}
		if e != api.OK {
			continue
		}
		ran++
		left := r.Intn(1000) - 100
		settings := []api.Setting{{Type: r.Intn(3), Value: -r.Intn(3)}, {Type: r.Intn(3), Value: r.Intn(3)}} // not settled ones
		l := line.New(r.Intn(9), r.Intn(9), gone, -1, math.MaxInt, math.MinInt)
		f := x.Run(l, settings, r.Intn(5)-1, left)
		if f != (api.Fault{}) && (f.Code != api.ErrBudget || f.Chain < 0 || f.Sub < 0) || l.Len() > 6+max(left, 0) {
			t.Fatalf("Run of %x: %v, %v", b, l.Glyphs(), f)
		}
		if n := len(x.Flags(settings)); n > len(b)/16 {
			t.Fatalf("Flags of %x: %d", b, n)
		}
	}
	if ran < 3000 {
		t.Error("too few tables were read", ran)
	}
}
