package pair_test

import (
	"bytes"
	"encoding/binary"
	"math"
	"math/rand"
	"slices"
	"testing"

	"swash/api"
	"swash/pair"
	"swash/view"
)

const fits = 9 // glyphs of the tests' font

// words, longs: each one's two, or four, bytes.
func words(l ...int) []byte {
	var b []byte
	for _, n := range l {
		b = binary.BigEndian.AppendUint16(b, uint16(n))
	}
	return b
}

func longs(l ...int) []byte {
	var b []byte
	for _, n := range l {
		b = binary.BigEndian.AppendUint32(b, uint32(n))
	}
	return b
}

// list: a List of pairs, three numbers each.
func list(l ...int) []byte { return append(longs(len(l)/3, -1, 0, 0x12345678), words(l...)...) }

// gives: a lookup that gives glyphs from one on numbers of two bytes.
func gives(first int, l ...int) []byte { return words(append([]int{8, first, len(l)}, l...)...) }

// givesLong: likewise, numbers of four bytes.
func givesLong(first int, l ...int) []byte {
	return append(words(10, 4, first, len(l)), longs(l...)...)
}

// none: a lookup that gives no glyph a number.
var none = gives(0)

// laid: numbers of four bytes ahead, where both lookups and the distances stand, and then these.
func laid(ahead []int, rows, columns, distances []byte) []byte {
	at := 4 * (len(ahead) + 3)
	where := []int{at, at + len(rows), at + len(rows) + len(columns)}
	return slices.Concat(longs(ahead...), longs(where...), rows, columns, distances)
}

func square(rows, columns, distances []byte) []byte {
	return laid([]int{0xFEDCBA98}, rows, columns, distances)
}

func index(flags int, rows, columns, distances []byte) []byte {
	return laid([]int{flags, 0xFEDCBA98}, rows, columns, distances)
}

// distances: of pairs of glyphs; all others have none.
type distances map[[2]int]int

// glyphs: those of the font, others, and no glyphs.
var glyphs = []int{0, 1, 4, 5, 6, 7, 8, 9, 100, 0x7FFF, 0x8000, 0xFFFE, 0xFFFF, 0x10000, 0x10005, 1 << 32, 1<<32 + 5, -1, -5, -65536, -65531, math.MinInt, math.MaxInt}

// taken: both Take and Read answer a subtable that tells just these distances.
func taken(t *testing.T, what string, kind int, b []byte, of int, want distances) {
	t.Helper()
	x, e := pair.Read(kind, b, of)
	if e != api.OK || x == nil {
		t.Errorf("Read of %s: %v", what, e)
		return
	}
	has(t, "Read of "+what, x, want)
	if !view.Try(func() { x = pair.Take(kind, view.Of(b), of) }) || x == nil {
		t.Errorf("Take of %s throws", what)
		return
	}
	has(t, "Take of "+what, x, want)
}

func has(t *testing.T, what string, x *pair.Table, want distances) {
	t.Helper()
	for _, left := range glyphs {
		for _, right := range glyphs {
			if n := x.Get(left, right); n != want[[2]int{left, right}] {
				t.Errorf("%s: Get(%d, %d): %d, not %d", what, left, right, n, want[[2]int{left, right}])
			}
		}
	}
	for p, n := range want {
		if got := x.Get(p[0], p[1]); got != n {
			t.Errorf("%s: Get(%d, %d): %d, not %d", what, p[0], p[1], got, n)
		}
	}
}

func refused(t *testing.T, what string, kind int, b []byte, of int) {
	t.Helper()
	if x, e := pair.Read(kind, b, of); x != nil || e != api.ErrForm {
		t.Errorf("Read of %s: %v, %v", what, x, e)
	}
	if view.Try(func() { pair.Take(kind, view.Of(b), of) }) {
		t.Errorf("Take of %s doesn't throw", what)
	}
}

// table: the subtable that bytes begin with.
func table(t *testing.T, kind int, b []byte) *pair.Table {
	t.Helper()
	x, e := pair.Read(kind, b, fits)
	if e != api.OK || x == nil {
		t.Fatal("a test's subtable:", e)
	}
	return x
}

// whole: each of the bytes is needed, and none behind.
func whole(t *testing.T, what string, kind int, b []byte, want distances) {
	t.Helper()
	for _, more := range [][]byte{nil, {0xFF}, {0, 5, 0, 6, 0, 7}, make([]byte, 50)} {
		taken(t, what, kind, slices.Concat(b, more), fits, want)
	}
	for n := range b {
		refused(t, "less than all of "+what, kind, b[:n], fits)
	}
}

// P22.1

func TestExample(t *testing.T) {
	b := list(5, 6, -20)
	x := table(t, pair.List, b)
	if x.Get(5, 6) != -20 || x.Get(6, 5) != 0 {
		t.Error("the document's example:", x.Get(5, 6), x.Get(6, 5))
	}
	taken(t, "the document's example", pair.List, b, fits, distances{{5, 6}: -20})
}

func TestLists(t *testing.T) {
	for _, c := range []struct {
		what string
		l    []int
		want distances
	}{
		{"no pairs", nil, nil},
		{"a pair", []int{5, 6, 7}, distances{{5, 6}: 7}},
		{"a pair of noughts", []int{0, 0, -1}, distances{{0, 0}: -1}},
		{"several pairs", []int{1, 4, 1, 5, 1, 2, 5, 6, 3, 6, 5, 4}, distances{{1, 4}: 1, {5, 1}: 2, {5, 6}: 3, {6, 5}: 4}},
		{"right glyphs that fall", []int{1, 9, 1, 4, 8, 2, 5, 7, 3}, distances{{1, 9}: 1, {4, 8}: 2, {5, 7}: 3}},
		{"the greatest and the least distances", []int{1, 1, 0x7FFF, 1, 4, -0x8000, 1, 5, -1, 1, 6, 0}, distances{{1, 1}: 0x7FFF, {1, 4}: -0x8000, {1, 5}: -1}},
		{"great numbers of glyphs", []int{0, 0xFFFF, 1, 1, 0, 2, 0x7FFF, 0xFFFF, 3, 0x8000, 0, 4, 0xFFFF, 0xFFFE, 5, 0xFFFF, 0xFFFF, 6},
			distances{{0, 0xFFFF}: 1, {1, 0}: 2, {0x7FFF, 0xFFFF}: 3, {0x8000, 0}: 4, {0xFFFF, 0xFFFE}: 5, {0xFFFF, 0xFFFF}: 6}},
	} {
		whole(t, c.what, pair.List, list(c.l...), c.want)
	}
}

func TestPairsThatDoNotRise(t *testing.T) {
	for _, l := range [][]int{
		{5, 6, 1, 5, 6, 1}, {5, 6, 1, 5, 6, 2}, {5, 6, 1, 5, 5, 1}, {5, 6, 1, 4, 7, 1}, {0, 0, 1, 0, 0, 1}, {0xFFFF, 0xFFFF, 1, 0xFFFF, 0xFFFF, 1},
		{0x8000, 0, 1, 0x7FFF, 0, 1}, {0x8000, 0, 1, 0, 0, 1}, {1, 1, 1, 5, 6, 1, 4, 9, 1}, {1, 1, 1, 5, 6, 1, 5, 6, 1, 6, 6, 1}, {4, 9, 1, 5, 0xFFFF, 1, 5, 0, 1},
	} {
		refused(t, "pairs that don't rise", pair.List, list(l...), fits)
	}
	taken(t, "a pair that stands behind all", pair.List, append(list(5, 6, 1), words(5, 6, 2)...), fits, distances{{5, 6}: 1})
}

func TestNumberOfPairs(t *testing.T) {
	b := list(4, 4, 1, 5, 6, 2, 6, 6, 3)
	for n, want := range []distances{{}, {{4, 4}: 1}, {{4, 4}: 1, {5, 6}: 2}, {{4, 4}: 1, {5, 6}: 2, {6, 6}: 3}} {
		binary.BigEndian.PutUint32(b, uint32(n))
		taken(t, "some of the pairs", pair.List, b, fits, want)
	}
	for _, n := range []int{4, 5, 1 << 16, 1<<31 - 1, 1 << 31, (1<<32 + 18) / 6, 1<<32 - 1} {
		binary.BigEndian.PutUint32(b, uint32(n))
		refused(t, "more pairs than there are", pair.List, b, fits)
	}
}

// Each pair is found, and none beside.
func TestManyPairs(t *testing.T) {
	for _, n := range []int{1, 2, 3, 4, 7, 8, 9, 1000} {
		var l []int
		for i := range n {
			l = append(l, 3*i/64, 3*i%64, i-40)
		}
		x := table(t, pair.List, list(l...))
		for i := range n {
			if left, right := 3*i/64, 3*i%64; x.Get(left, right) != i-40 || x.Get(left, right+1) != 0 || x.Get(left, right-1) != 0 {
				t.Errorf("%d pairs: Get(%d, %d): %d", n, left, right, x.Get(left, right))
			}
		}
	}
}

// A List of a great many pairs asks for few of them.
func TestGreatList(t *testing.T) {
	const n = 1 << 20
	b := longs(n, 0, 0, 0)
	for i := range n {
		b = append(b, words(i>>8, i&0xFF, i)...)
	}
	x := table(t, pair.List, b)
	for i := range n {
		if got := x.Get(i>>8, i&0xFF); got != int(int16(i)) {
			t.Fatalf("Get(%d, %d): %d", i>>8, i&0xFF, got)
		}
	}
}

// P22.2

func TestSquares(t *testing.T) {
	own := words(1, -2, 3, -4, 5, -6)
	for _, c := range []struct {
		what                     string
		rows, columns, distances []byte
		of                       func(left, right int) int
	}{
		{"no rows, no columns", none, none, words(0), func(int, int) int { return 0 }},
		{"no rows, no columns, a distance", none, none, words(-7), func(int, int) int { return -7 }},
		{"two rows of three columns", gives(5, 0, 6), gives(5, 2, 4), own, func(left, right int) int {
			return []int{1, -2, 3, -4, 5, -6}[given(left, 6, 3)+given(right, 5, 1)+given(right, 6, 2)]
		}},
		{"columns alone", none, gives(5, 10), own, func(_, right int) int { return []int{1, -6}[given(right, 5, 1)] }},
		{"rows alone", gives(6, 10), none, own, func(left, _ int) int { return []int{1, -6}[given(left, 6, 1)] }},
		{"places between two distances", gives(5, 1), gives(6, 2), []byte{0x7F, 0xFF, 0x80, 0x00, 0x12}, func(left, right int) int {
			return map[int]int{0: 0x7FFF, 1: -0x80, 2: -0x8000, 3: 0x12}[given(left, 5, 1)+given(right, 6, 2)]
		}},
		{"great numbers in a lookup of them", givesLong(5, 4), append(words(10, 1, 6, 1), 6), own, func(left, right int) int {
			return []int{1, -2, 3, -4, 5, -6}[given(left, 5, 2)+given(right, 6, 3)]
		}},
	} {
		whole(t, "a Square of "+c.what, pair.Square, square(c.rows, c.columns, c.distances), all(c.of))
	}
}

// given: a number, if a glyph is one.
func given(id, is, n int) int {
	if id == is {
		return n
	}
	return 0
}

// all: the distances of the tests' glyphs.
func all(of func(left, right int) int) distances {
	d := distances{}
	for _, left := range glyphs {
		for _, right := range glyphs {
			d[[2]int{left, right}] = of(left, right)
		}
	}
	return d
}

func TestIndexes(t *testing.T) {
	own := words(1, -2, 3, -4, 5, -0x8000)
	far := longs(1, -2, 70000, -70000, 1<<31-1, -1<<31)
	short := func(n int) int { return []int{1, -2, 3, -4, 5, -0x8000}[n] }
	long := func(n int) int { return []int{1, -2, 70000, -70000, 1<<31 - 1, -1 << 31}[n] }
	for _, c := range []struct {
		what                     string
		flags                    int
		rows, columns, distances []byte
		of                       func(left, right int) int
	}{
		{"no rows, no columns", 0, none, none, words(-7), func(int, int) int { return -7 }},
		{"no rows, no columns, long", 1, none, none, longs(-70000), func(int, int) int { return -70000 }},
		{"two rows of three columns", 0, gives(5, 0, 3), gives(5, 1, 2), own, func(left, right int) int {
			return short(given(left, 6, 3) + given(right, 5, 1) + given(right, 6, 2))
		}},
		{"two rows of three columns, long", 1, givesLong(5, 0, 3), givesLong(5, 1, 2), far, func(left, right int) int {
			return long(given(left, 6, 3) + given(right, 5, 1) + given(right, 6, 2))
		}},
		{"rows alone", 0, gives(6, 5), none, own, func(left, _ int) int { return short(given(left, 6, 5)) }},
		{"columns alone, long", 1, none, givesLong(5, 5), far, func(_, right int) int { return long(given(right, 5, 5)) }},
		{"other flags", 0xFFFFFFFE, gives(5, 2), gives(6, 3), own, func(left, right int) int { return short(given(left, 5, 2) + given(right, 6, 3)) }},
		{"all flags", 0xFFFFFFFF, givesLong(5, 2), givesLong(6, 3), far, func(left, right int) int { return long(given(left, 5, 2) + given(right, 6, 3)) }},
		{"a bit of another byte", 0x01000000, gives(5, 2), gives(6, 3), own, func(left, right int) int { return short(given(left, 5, 2) + given(right, 6, 3)) }},
		{"lookups of numbers of four bytes", 1, longLookup(5, 2), longLookup(6, 3), far, func(left, right int) int { return long(given(left, 5, 2) + given(right, 6, 3)) }},
		{"lookups of numbers of two bytes", 0, shortLookup(5, 2), shortLookup(6, 3), own, func(left, right int) int { return short(given(left, 5, 2) + given(right, 6, 3)) }},
	} {
		whole(t, "an Index of "+c.what, pair.Index, index(c.flags, c.rows, c.columns, c.distances), all(c.of))
	}
}

// shortLookup, longLookup: of a glyph and its number, which has as many bytes as the lookup is asked for.
func shortLookup(id, n int) []byte { return words(6, 4, 1, 0, 0, 0, id, n) }

func longLookup(id, n int) []byte {
	return slices.Concat(words(6, 6, 1, 0, 0, 0, id), longs(n))
}

// The lookups' numbers have two bytes, but of an Index that is long.
func TestSizesOfNumbers(t *testing.T) {
	refused(t, "an Index that is long, of numbers of two bytes", pair.Index, index(1, shortLookup(5, 0), none, longs(1)), fits)
	refused(t, "an Index that is long, of columns of two bytes", pair.Index, index(1, none, shortLookup(5, 0), longs(1)), fits)
	// a row of six bytes begins with a number of two
	b := index(0, longLookup(5, 1<<16), none, words(1, -2))
	taken(t, "an Index of rows of six bytes", pair.Index, b, fits, all(func(left, _ int) int { return []int{1, -2}[given(left, 5, 1)] }))
	b = square(longLookup(5, 2<<16), none, words(1, -2))
	taken(t, "a Square of rows of six bytes", pair.Square, b, fits, all(func(left, _ int) int { return []int{1, -2}[given(left, 5, 1)] }))
}

// The distance that the greatest row and the greatest column tell is there, also if no others are beside it.
func TestGreatest(t *testing.T) {
	for _, c := range []struct {
		what          string
		kind, flags   int
		rows, columns []byte
		bytes         int
	}{
		{"a Square", pair.Square, 0, gives(4, 2, 8, 6), gives(4, 4, 2), 14},
		{"a Square of odd places", pair.Square, 0, gives(4, 1), gives(4, 0, 2), 5},
		{"a Square without rows", pair.Square, 0, none, gives(4, 2), 4},
		{"a Square without lookups' numbers", pair.Square, 0, none, none, 2},
		{"a Square of the greatest rows", pair.Square, 0, gives(4, 0xFFFF), gives(4, 0xFFFF), 0x1FFFE + 2},
		{"a Square of glyphs that the font hasn't", pair.Square, 0, gives(fits, 6), gives(0xFFFF, 2), 10},
		{"an Index", pair.Index, 0, gives(4, 2, 8, 6), gives(4, 4, 2), 26},
		{"an Index without columns", pair.Index, 0, gives(4, 3), none, 8},
		{"an Index of the greatest rows", pair.Index, 0, gives(4, 0xFFFF), gives(4, 0xFFFF), 2*0x1FFFE + 2},
		{"a long Index", pair.Index, 1, givesLong(4, 2, 8, 6), givesLong(4, 4, 2), 52},
		{"a long Index without lookups' numbers", pair.Index, 1, none, none, 4},
		{"a long Index of great rows", pair.Index, 1, givesLong(4, 70000), givesLong(4, 0, 1), 4 * 70002},
	} {
		laid := func(n int) []byte {
			if c.kind == pair.Square {
				return square(c.rows, c.columns, make([]byte, n))
			}
			return index(c.flags, c.rows, c.columns, make([]byte, n))
		}
		taken(t, c.what, c.kind, laid(c.bytes), fits, nil)
		for _, less := range []int{1, 2, c.bytes} {
			refused(t, c.what+" of less", c.kind, laid(c.bytes-less), fits)
		}
	}
	// so great that numbers might go round
	for _, n := range []int{1 << 16, 1<<31 - 1, 1 << 31, 1<<32 - 4, 1<<32 - 2, 1<<32 - 1} {
		for _, far := range [][2][]byte{{givesLong(4, n), none}, {none, givesLong(4, n)}, {givesLong(4, n), givesLong(4, n)}} {
			refused(t, "a Square of a row that isn't there", pair.Square, square(far[0], far[1], make([]byte, 50)), fits)
			refused(t, "an Index of a row that isn't there", pair.Index, index(0, far[0], far[1], make([]byte, 50)), fits)
			refused(t, "a long Index of a row that isn't there", pair.Index, index(1, far[0], far[1], make([]byte, 50)), fits)
		}
	}
}

// The lookups and the distances may stand anywhere, at odd places, too, and upon one another.
func TestPlaces(t *testing.T) {
	for _, c := range []struct {
		what        string
		kind, head  int
		rows, cells []byte
	}{
		{"a Square", pair.Square, 16, gives(5, 2), words(-3, 4, 5)},
		{"an Index", pair.Index, 20, gives(5, 1), words(-3, 4, 5)},
	} {
		for n := range 4 {
			gap := slices.Repeat([]byte{0xFE}, n)
			b := slices.Concat(make([]byte, c.head-12), longs(c.head+n+len(c.cells)+n, c.head+n+len(c.cells)+n, c.head+n), gap, c.cells, gap, c.rows)
			taken(t, c.what+" whose distances stand ahead", c.kind, b, fits, all(func(left, right int) int {
				return []int{-3, 4, 5}[given(left, 5, 1)+given(right, 5, 1)]
			}))
		}
	}
	// both lookups, and the distances, stand upon the beginning: a lookup of a number for each of one glyph
	taken(t, "a Square upon itself", pair.Square, longs(0, 0, 0, 0), 1, nil)
	taken(t, "an Index upon itself", pair.Index, longs(0, 0, 0, 0, 0), 1, nil)
}

func TestPlacesBehind(t *testing.T) {
	b := square(gives(5, 2), gives(5, 2), words(-3, 4, 5))
	i := index(0, gives(5, 1), gives(5, 1), words(-3, 4, 5))
	for k := range 3 {
		for _, at := range []int{-1, 0, 1, 2, 1 << 16, 1<<31 - 1, 1 << 31, 1<<32 - 1} {
			wrong, wrongly := slices.Clone(b), slices.Clone(i)
			place := func(l int) uint32 {
				if at > 2 {
					return uint32(at)
				}
				return uint32(l + at)
			}
			binary.BigEndian.PutUint32(wrong[4+4*k:], place(len(b)))
			binary.BigEndian.PutUint32(wrongly[8+4*k:], place(len(i)))
			refused(t, "a Square with a part behind its bytes", pair.Square, wrong, fits)
			refused(t, "an Index with a part behind its bytes", pair.Index, wrongly, fits)
		}
	}
	for k, no := range [][]byte{words(1, 0, 0, 0), words(10, 3, 5, 0), words(8, 65535, 2, 0, 0)} {
		refused(t, "a Square without rows' lookup", pair.Square, square(no, none, make([]byte, 99)), fits)
		refused(t, "a Square without columns' lookup", pair.Square, square(none, no, make([]byte, 99)), fits)
		refused(t, "an Index without rows' lookup", pair.Index, index(k&1, no, none, make([]byte, 99)), fits)
		refused(t, "an Index without columns' lookup", pair.Index, index(k&1, none, no, make([]byte, 99)), fits)
	}
}

// A lookup of a number for each glyph has as many as the font has glyphs.
func TestGlyphsOfTheFont(t *testing.T) {
	const rowsAt = 30
	five := []int{0, 2, 4, 2, 0}
	b := slices.Concat(longs(0, rowsAt, 22, 16), words(1, -2, 3), none, words(9))
	b = slices.Concat(b, words(0), words(five...))
	for of := 1; of < 9; of++ {
		if of > 5 {
			refused(t, "a lookup of five glyphs", pair.Square, b, of)
			continue
		}
		taken(t, "a lookup of five glyphs", pair.Square, b, of, all(func(left, _ int) int {
			if left < 0 || left >= of {
				return 1
			}
			return []int{1, -2, 3}[five[left]/2]
		}))
	}
}

// P22.3

var kinds = []int{pair.List, pair.Square, pair.Index}

// plain: a subtable of a kind, in which the pair 5, 6 has -20.
func plain(kind int) []byte {
	switch kind {
	case pair.List:
		return list(5, 6, -20)
	case pair.Square:
		return square(gives(5, 2), gives(6, 2), words(0, 0, -20))
	}
	return index(0, gives(5, 1), gives(6, 1), words(0, 0, -20))
}

func TestKinds(t *testing.T) {
	for _, kind := range kinds {
		taken(t, "each kind", kind, plain(kind), fits, distances{{5, 6}: -20})
	}
	for _, kind := range []int{1, 3, 4, 5, 7, 8, 256, 258, 262, 1 << 32, 1<<32 + 2, 1<<32 + 6, -1, -2, -6, math.MinInt, math.MaxInt} {
		for _, b := range [][]byte{plain(pair.List), plain(pair.Square), plain(pair.Index), make([]byte, 100), nil, {1}} {
			for _, of := range []int{fits, 0} {
				if x, e := pair.Read(kind, b, of); x != nil || e != api.ErrArg {
					t.Errorf("Read of the kind %d: %v, %v", kind, x, e)
				}
			}
			if view.Try(func() { pair.Take(kind, view.Of(b), fits) }) {
				t.Errorf("Take of the kind %d doesn't throw", kind)
			}
		}
	}
}

func TestReadOfWrongArguments(t *testing.T) {
	for _, kind := range kinds {
		for _, of := range []int{0, -1, -65535, 65536, 1<<32 + 1, math.MinInt, math.MaxInt} {
			for _, b := range [][]byte{plain(kind), nil, {1}} {
				if x, e := pair.Read(kind, b, of); x != nil || e != api.ErrArg {
					t.Errorf("Read of %d bytes, %d glyphs: %v, %v", len(b), of, x, e)
				}
			}
		}
		for _, of := range []int{1, 2, fits, 65534, 65535} {
			taken(t, "a number of glyphs that may be", kind, plain(kind), of, distances{{5, 6}: -20})
			refused(t, "no bytes", kind, nil, of)
		}
	}
}

func TestTake(t *testing.T) {
	for _, kind := range kinds {
		v := view.Of(slices.Concat([]byte{1, 2, 3}, plain(kind), []byte{4}))
		var x *pair.Table
		if !view.Try(func() { x = pair.Take(kind, v.Rest(3), fits) }) || x == nil {
			t.Fatal("Take throws")
		}
		has(t, "Take", x, distances{{5, 6}: -20})
		if view.Try(func() { pair.Take(kind, view.View{}, fits) }) || view.Try(func() { pair.Take(kind, v.Cut(3, len(plain(kind))-1), fits) }) {
			t.Error("Take of no subtable doesn't throw")
		}
	}
}

// P2: the font's bytes aren't changed, and Read doesn't keep them.
func TestBytesAreNotKept(t *testing.T) {
	for _, kind := range kinds {
		b := append(plain(kind), 1, 2, 3)[:len(plain(kind))]
		was := bytes.Clone(b[:cap(b)])
		x := table(t, kind, b)
		pair.Take(kind, view.Of(b), fits).Get(5, 6)
		x.Get(5, 6)
		if !bytes.Equal(b[:cap(b)], was) {
			t.Errorf("the bytes were changed: %x", b)
		}
		for _, n := range []byte{0, 0xFF} {
			for i := range b {
				b[i] = n
			}
			has(t, "a subtable behind a change of the bytes", x, distances{{5, 6}: -20})
		}
	}
}

// P22.4

// Numbers that are no glyphs' aren't those of others, though they go round to these.
func TestNoGlyphs(t *testing.T) {
	l := table(t, pair.List, list(0, 5, 1, 1, 0, 2, 5, 6, 3, 0xFFFF, 0xFFFF, 4))
	for _, p := range [][2]int{
		{0, 1 << 16}, {0, 5<<16 | 6}, {4, 1<<16 | 6}, {6, 6 - 1<<16}, {1, 5 - 1<<16}, {2, -1 << 16}, {5, 6 + 1<<16}, {5 + 1<<16, 6}, {5 + 1<<32, 6}, {5, 6 + 1<<32}, {5 + 1<<48, 6},
		{-1, -1}, {-1, 0xFFFF}, {0xFFFF, -1}, {-1 << 16, 5}, {5 - 1<<16, 6}, {1<<16 - 1, 1<<17 - 1}, {math.MinInt, 5}, {math.MaxInt, math.MaxInt}, {math.MinInt, math.MinInt},
	} {
		if n := l.Get(p[0], p[1]); n != 0 {
			t.Errorf("Get(%d, %d): %d", p[0], p[1], n)
		}
	}
	for _, of := range []*pair.Table{
		table(t, pair.Square, square(gives(5, 2), gives(6, 2), words(7, 0, -20))),
		table(t, pair.Index, index(0, gives(5, 1), gives(6, 1), words(7, 0, -20))),
	} {
		for _, p := range [][2]int{{-1, -1}, {5 + 1<<16, 6 + 1<<16}, {5 - 1<<16, 6 - 1<<16}, {5 + 1<<32, 6 + 1<<32}, {math.MinInt, math.MaxInt}, {math.MaxInt, math.MinInt}} {
			if n := of.Get(p[0], p[1]); n != 7 {
				t.Errorf("Get(%d, %d): %d, not that of no row and no column", p[0], p[1], n)
			}
		}
	}
}

// someLookup: a lookup of any format, whose numbers have so many bytes and are at most so great, and these numbers.
func someLookup(r *rand.Rand, size, most int) ([]byte, map[int]int) {
	number := func(n int) []byte { return longs(n)[4-size:] }
	of := map[int]int{}
	first, n := r.Intn(6), r.Intn(5)
	var listed []byte
	for id := first; id < first+n; id++ {
		of[id] = r.Intn(most + 1)
		listed = append(listed, number(of[id])...)
	}
	switch r.Intn(4) {
	case 0:
		return append(words(8, first, n), listed...), of
	case 1:
		b := words(6, 2+size, n, 0, 0, 0)
		for id := first; id < first+n; id++ {
			b = slices.Concat(b, words(id), number(of[id]))
		}
		return b, of
	case 2:
		b := words(2, 4+size, n, 0, 0, 0)
		for id := first; id < first+n; id++ {
			b = slices.Concat(b, words(id, id), number(of[id]))
		}
		return b, of
	}
	return append(words(10, size, first, n), listed...), of
}

// someGrid: a Square or an Index, and the distances of the glyphs 0 to 11.
func someGrid(r *rand.Rand, kind int) ([]byte, distances) {
	size, unit, flags := 2, 1, 2*r.Intn(3)
	if kind == pair.Index {
		if r.Intn(2) == 0 {
			size, flags = 4, flags|1
		}
		unit = size
	}
	rows, row := someLookup(r, size, 20)
	columns, column := someLookup(r, size, 20)
	cells := make([]byte, 40*unit+size)
	r.Read(cells)
	d := distances{}
	for left := range 12 {
		for right := range 12 {
			at := cells[(row[left]+column[right])*unit:]
			d[[2]int{left, right}] = int(int16(binary.BigEndian.Uint16(at)))
			if size == 4 {
				d[[2]int{left, right}] = int(int32(binary.BigEndian.Uint32(at)))
			}
		}
	}
	if kind == pair.Square {
		return square(rows, columns, cells), d
	}
	return index(flags, rows, columns, cells), d
}

// someList: a List, and the distances of the glyphs 0 to 11.
func someList(r *rand.Rand) ([]byte, distances) {
	d := distances{}
	var l []int
	for left := range 12 {
		for right := range 12 {
			n := 0
			if r.Intn(4) == 0 {
				n = r.Intn(1<<16) - 1<<15
				l = append(l, left, right, n)
			}
			d[[2]int{left, right}] = n
		}
	}
	return list(l...), d
}

func some(r *rand.Rand, kind int) ([]byte, distances) {
	if kind == pair.List {
		return someList(r)
	}
	return someGrid(r, kind)
}

func TestAnyDistances(t *testing.T) {
	r := rand.New(rand.NewSource(22))
	for range 3000 {
		kind := kinds[r.Intn(3)]
		b, want := some(r, kind)
		x := table(t, kind, b)
		for p, n := range want {
			if got := x.Get(p[0], p[1]); got != n {
				t.Fatalf("the kind %d, %x: Get(%d, %d): %d, not %d", kind, b, p[0], p[1], got, n)
			}
		}
	}
}

// P1: whatever bytes there are, Read ends, and so does each call of what it answers.
func TestAnyBytes(t *testing.T) {
	r := rand.New(rand.NewSource(122))
	read, not := 0, 0
	for range 50000 {
		kind := kinds[r.Intn(3)]
		b, _ := some(r, kind)
		for range 1 + r.Intn(3) {
			b[r.Intn(len(b))] = byte([]int{r.Intn(256), r.Intn(9), 0, 0xFF}[r.Intn(4)])
		}
		x, e := pair.Read(kind, b, 1+r.Intn(12))
		if (x == nil) != (e != api.OK) || e != api.OK && e != api.ErrForm {
			t.Fatalf("Read of %x: %v, %v", b, x, e)
		}
		if e != api.OK {
			not++
			continue
		}
		read++
		for range 20 {
			x.Get(glyphs[r.Intn(len(glyphs))], glyphs[r.Intn(len(glyphs))])
			x.Get(r.Intn(300), r.Intn(300))
		}
		for left := range 20 { // all rows, and all columns, that lookups of few glyphs tell
			x.Get(left, left)
		}
	}
	if read < 3000 || not < 3000 {
		t.Error("too few subtables were read, or refused", read, not)
	}
}
