package ankr_test

import (
	"bytes"
	"encoding/binary"
	"math"
	"math/rand"
	"slices"
	"testing"

	"swash/ankr"
	"swash/api"
	"swash/view"
)

const (
	fits = 9 // glyphs of the tests' font
	head = 12
)

// words, longs: each one's two, or four, bytes.
func words(l ...int) []byte {
	var b []byte
	for _, n := range l {
		b = binary.BigEndian.AppendUint16(b, uint16(n))
	}
	return b
}

func longs(l ...int) []byte {
	var b []byte
	for _, n := range l {
		b = binary.BigEndian.AppendUint32(b, uint32(n))
	}
	return b
}

// row: how many points there are, and these, two numbers each.
func row(l ...int) []byte { return append(longs(len(l)/2), words(l...)...) }

// gives: a lookup that gives glyphs from one on numbers.
func gives(first int, l ...int) []byte { return words(append([]int{8, first, len(l)}, l...)...) }

// laid: a table of a lookup, and behind it of points.
func laid(lookup []byte, points ...[]byte) []byte {
	return slices.Concat(words(0, 0xFEDC), longs(head, head+len(lookup)), lookup, slices.Concat(points...))
}

// points: those of glyphs; all others have none.
type points map[int][]ankr.Point

// glyphs: those of the font, others, and no glyphs.
var glyphs = []int{0, 1, 4, 5, 6, 7, 8, 9, 100, 0x7FFF, 0x8000, 0xFFFE, 0xFFFF, 0x10000, 0x10005, 1 << 32, 1<<32 + 5, -1, -5, -65536, -65531, math.MinInt, math.MaxInt}

// has: a table has just these points.
func has(t *testing.T, what string, x *ankr.Table, want points) {
	t.Helper()
	check := func(id int) {
		t.Helper()
		l := want[id]
		if n := x.Count(id); n != len(l) {
			t.Errorf("%s: Count(%d): %d, not %d", what, id, n, len(l))
		}
		for i, p := range l {
			if got, ok := x.Get(id, i); got != p || !ok {
				t.Errorf("%s: Get(%d, %d): %v, %v, not %v", what, id, i, got, ok, p)
			}
		}
		for _, i := range []int{-1, -len(l), len(l), len(l) + 1, 1 << 16, 1 << 30, 1 << 32, 1 << 62, -1 << 62, math.MaxInt, math.MinInt} {
			if i >= 0 && i < len(l) {
				continue
			}
			if got, ok := x.Get(id, i); got != (ankr.Point{}) || ok {
				t.Errorf("%s: Get(%d, %d): %v, %v, though there is none", what, id, i, got, ok)
			}
		}
	}
	for _, id := range glyphs {
		check(id)
	}
	for id := range want {
		check(id)
	}
}

// taken: both Take and Read answer a table that has just these points.
func taken(t *testing.T, what string, b []byte, of int, want points) {
	t.Helper()
	x, e := ankr.Read(b, of)
	if e != api.OK || x == nil {
		t.Errorf("Read of %s: %v, %v", what, x, e)
		return
	}
	has(t, "Read of "+what, x, want)
	if !view.Try(func() { x = ankr.Take(view.Of(b), of) }) || x == nil {
		t.Errorf("Take of %s throws", what)
		return
	}
	has(t, "Take of "+what, x, want)
}

func refused(t *testing.T, what string, b []byte, of int) {
	t.Helper()
	if x, e := ankr.Read(b, of); x != nil || e != api.ErrForm {
		t.Errorf("Read of %s: %v, %v", what, x, e)
	}
	if view.Try(func() { ankr.Take(view.Of(b), of) }) {
		t.Errorf("Take of %s doesn't throw", what)
	}
}

// whole: each of the bytes is needed, and none behind.
func whole(t *testing.T, what string, b []byte, want points) {
	t.Helper()
	for _, more := range [][]byte{nil, {0xFF}, {0, 0, 0, 1, 0, 6, 0, 7}, make([]byte, 50)} {
		taken(t, what, slices.Concat(b, more), fits, want)
	}
	for n := range b {
		refused(t, "less than all of "+what, b[:n], fits)
	}
}

// table: the table that bytes begin with.
func table(t *testing.T, b []byte) *ankr.Table {
	t.Helper()
	x, e := ankr.Read(b, fits)
	if e != api.OK || x == nil {
		t.Fatal("a test's table:", e)
	}
	return x
}

// P24.1

// plain: the document's example, of the glyph 5.
func plain() ([]byte, points) {
	return laid(gives(5, 0), row(3, -4)), points{5: {{X: 3, Y: -4}}}
}

func TestReadOfPieces(t *testing.T) {
	b, want := plain()
	whole(t, "the document's example", b, want)
	whole(t, "several glyphs", laid(gives(4, 0, 12, 20), row(1, 2, 3, 4), row(-5, -6), row(7, 8, 9, 10, 11, 12)), points{
		4: {{1, 2}, {3, 4}}, 5: {{-5, -6}}, 6: {{7, 8}, {9, 10}, {11, 12}},
	})
	whole(t, "a glyph without points", laid(gives(5, 8, 0), row(0x7FFF, -0x8000), row()), points{5: nil, 6: {{0x7FFF, -0x8000}}})
	whole(t, "no glyphs", laid(gives(0)), nil)
	whole(t, "glyphs that the font hasn't", laid(gives(0xFFFE, 0, 8), row(1, 2), row(3, 4)), points{0xFFFE: {{1, 2}}, 0xFFFF: {{3, 4}}})
}

// The edges of a point's numbers, each of two bytes.
func TestNumbers(t *testing.T) {
	for _, n := range []int{0, 1, -1, 255, 256, -256, 0x7FFF, -0x8000, -0x7FFF} {
		taken(t, "a number to the right", laid(gives(5, 0), row(n, 7)), fits, points{5: {{X: n, Y: 7}}})
		taken(t, "a number up", laid(gives(5, 0), row(7, n)), fits, points{5: {{X: 7, Y: n}}})
	}
}

// The first two bytes are 0, and the next two don't matter.
func TestFirstBytes(t *testing.T) {
	b, want := plain()
	for _, n := range []int{0, 1, 2, 0x8000, 0xFFFF} {
		taken(t, "bytes that don't matter", slices.Concat(words(0, n), b[4:]), fits, want)
	}
	for _, n := range []int{1, 2, 255, 256, 0x8000, 0xFFFF} {
		refused(t, "another table", slices.Concat(words(n, 0), b[4:]), fits)
	}
}

// Lookups of all formats tell where points stand, of as many bytes as their numbers have.
func TestLookups(t *testing.T) {
	first, second, both := []ankr.Point{{1, 2}}, []ankr.Point{{3, 4}, {5, 6}}, [][]byte{row(1, 2), row(3, 4, 5, 6)}
	for _, c := range []struct {
		what   string
		lookup []byte
		want   points
	}{
		{"each glyph", words(0, 8, 0, 0, 8, 0, 0, 8, 0, 8), points{0: second, 1: first, 2: first, 3: second, 4: first, 5: first, 6: second, 7: first, 8: second}},
		{"parts", words(2, 6, 2, 0, 0, 0, 5, 4, 8, 8, 7, 0), points{4: second, 5: second, 7: first, 8: first}},
		{"parts of numbers", words(4, 6, 1, 0, 0, 0, 5, 4, 18, 0, 8), points{4: first, 5: second}},
		{"single glyphs, and a last row of none", words(6, 4, 2, 0, 0, 0, 4, 8, 0xFFFF, 0), points{4: second}},
		{"one part", gives(5, 8, 0, 8), points{5: second, 6: first, 7: second}},
		{"numbers of one byte", append(words(10, 1, 5, 3), 8, 0, 8), points{5: second, 6: first, 7: second}},
		{"numbers of two bytes", words(10, 2, 5, 3, 8, 0, 8), points{5: second, 6: first, 7: second}},
		{"numbers of four bytes", append(words(10, 4, 5, 3), longs(8, 0, 8)...), points{5: second, 6: first, 7: second}},
	} {
		taken(t, "a lookup of "+c.what, laid(c.lookup, both...), fits, c.want)
	}
	for _, wrong := range [][]byte{words(1, 0, 0), words(3), words(10, 3, 5, 0), words(8, 0xFFFF, 2, 0, 0), words(0)} {
		refused(t, "a table without a lookup", slices.Concat(words(0, 0), longs(len(laid(nil)), head), wrong), fits)
	}
}

// A number of four bytes tells a place further than those of two could.
func TestFarPoints(t *testing.T) {
	const far = 70000
	b := laid(append(words(10, 4, 5, 1), longs(far)...), make([]byte, far), row(3, -4))
	taken(t, "points far away", b, fits, points{5: {{3, -4}}})
	refused(t, "points far away, of less", b[:len(b)-1], fits)
	b = laid(gives(5, 0xFFFF), make([]byte, 0xFFFF), row(3, -4))
	taken(t, "points at the greatest place of two bytes", b, fits, points{5: {{3, -4}}})
	refused(t, "points at the greatest place of two bytes, of less", b[:len(b)-1], fits)
}

// A glyph may have points in great numbers.
func TestManyPoints(t *testing.T) {
	const n = 70000
	var l []int
	var want []ankr.Point
	for i := range n {
		x, y := i%60000-30000, i%7-3
		l = append(l, x, y)
		want = append(want, ankr.Point{X: x, Y: y})
	}
	b := laid(gives(5, 0), row(l...))
	taken(t, "many points", b, fits, points{5: want})
	refused(t, "many points, of less", b[:len(b)-1], fits)
}

// Each number of points is one of all four bytes; all of these are there.
func TestCountsOfTooMany(t *testing.T) {
	for _, n := range []int{2, 3, 256, 1 << 16, 1<<16 + 1, 1<<24 + 1, 1 << 29, 1 << 30, 1<<30 + 1, 1 << 31, 1<<31 + 1, 3 << 30, 3<<30 + 1, 1<<32 - 1} {
		refused(t, "a number of points that aren't there", laid(gives(5, 0), longs(n), words(3, -4)), fits)
		refused(t, "a second glyph's, that aren't there", laid(gives(5, 0, 8), row(3, -4), longs(n), words(3, -4)), fits)
		refused(t, "a first glyph's, that aren't there", laid(gives(5, 8, 0), row(3, -4), longs(n), words(3, -4)), fits)
	}
}

// The points are looked at of each glyph that has a number, also if the font hasn't it.
func TestEachGlyph(t *testing.T) {
	for _, id := range []int{0, 4, 8, 9, 0x7FFF, 0xFFFE, 0xFFFF} {
		for _, l := range [][]int{{9}, {100}, {0xFFFF}} {
			refused(t, "a glyph whose points aren't there", laid(gives(id, l...), row(1, 2)), fits)
		}
		refused(t, "a glyph one of whose points isn't there", laid(gives(id, 1), row(1, 2)), fits) // 2^8 of them
	}
	refused(t, "a glyph behind others", laid(gives(1, 0, 0, 0, 0, 0, 0, 9), row(1, 2)), fits)
	refused(t, "a glyph ahead of others", laid(gives(1, 9, 0, 0, 0, 0, 0, 0), row(1, 2)), fits)
	refused(t, "a glyph of a part", laid(words(2, 6, 1, 0, 0, 0, 0xFFFF, 3, 9), row(1, 2)), fits)
}

// The lookup's place, and the points', is one within the bytes, or at their end, also where nobody asks for what stands there.
func TestPlaces(t *testing.T) {
	b := laid(gives(0))
	for _, at := range []int{0, 1, 7, head, len(b) - 1, len(b)} {
		binary.BigEndian.PutUint32(b[8:], uint32(at))
		taken(t, "points within", b, fits, nil)
	}
	for _, at := range []int{len(b) + 1, len(b) + 2, 1 << 16, 1 << 31, 1<<32 - 1} {
		binary.BigEndian.PutUint32(b[8:], uint32(at))
		refused(t, "points behind the bytes", b, fits)
	}
	b, _ = plain()
	for _, at := range []int{len(b) - 1, len(b), len(b) + 1, 1 << 16, 1 << 31, 1<<32 - 1} {
		wrong := slices.Clone(b)
		binary.BigEndian.PutUint32(wrong[4:], uint32(at))
		refused(t, "a lookup behind the bytes", wrong, fits)
		wrong = slices.Clone(b)
		binary.BigEndian.PutUint32(wrong[8:], uint32(at))
		refused(t, "points behind the bytes that are asked for", wrong, fits)
	}
}

// Both may stand anywhere, at odd places, too, and upon one another.
func TestPlacesOfParts(t *testing.T) {
	of, l := gives(5, 8, 0, 8, 0), slices.Concat(row(3, -4), row(5, 6, 7, 8))
	want := points{5: {{5, 6}, {7, 8}}, 6: {{3, -4}}, 7: {{5, 6}, {7, 8}}, 8: {{3, -4}}}
	for n := range 5 {
		gap := slices.Repeat([]byte{0xFE}, n)
		b := slices.Concat(words(0, 0), longs(head+n+len(l)+n, head+n), gap, l, gap, of)
		taken(t, "points that stand ahead", b, fits, want)
		b = slices.Concat(words(0, 0), longs(head+n, head+n+len(of)+n), gap, of, gap, l)
		taken(t, "points that stand behind", b, fits, want)
	}
	// two glyphs' points within one another: two of which the second one is a number of none, and a half
	b := laid(gives(5, 0, 8, 4), longs(2, 1, 0, 0))
	taken(t, "points within points", b, fits, points{5: {{0, 1}, {0, 0}}, 6: nil, 7: {{0, 0}}})
	// the lookup and the points stand upon the beginning: a lookup of a number for each of one glyph
	taken(t, "a table upon itself", longs(0, 0, 0), 1, points{0: nil})
}

// A lookup of a number for each glyph has as many as the font has glyphs.
func TestGlyphsOfTheFont(t *testing.T) {
	b := slices.Concat(words(0, 0), longs(head+8, head), row(1, 2), words(0, 0, 0, 0, 0, 0))
	for of := 1; of < 9; of++ {
		if of > 5 {
			refused(t, "a lookup of five glyphs", b, of)
			continue
		}
		want := points{}
		for id := range of {
			want[id] = []ankr.Point{{1, 2}}
		}
		taken(t, "a lookup of five glyphs", b, of, want)
	}
}

// P24.2

func TestReadOfWrongArguments(t *testing.T) {
	b, want := plain()
	for _, of := range []int{0, -1, -65535, 65536, 1<<32 + 1, math.MinInt, math.MaxInt} {
		for _, b := range [][]byte{b, nil, {1}} {
			if x, e := ankr.Read(b, of); x != nil || e != api.ErrArg {
				t.Errorf("Read of %d bytes, %d glyphs: %v, %v", len(b), of, x, e)
			}
		}
	}
	for _, of := range []int{1, 2, fits, 65534, 65535} {
		taken(t, "a number of glyphs that may be", b, of, want)
		refused(t, "no bytes", nil, of)
	}
}

func TestTake(t *testing.T) {
	b, want := plain()
	v := view.Of(slices.Concat([]byte{1, 2, 3}, b, []byte{4}))
	var x *ankr.Table
	if !view.Try(func() { x = ankr.Take(v.Rest(3), fits) }) || x == nil {
		t.Fatal("Take throws")
	}
	has(t, "Take", x, want)
	if view.Try(func() { ankr.Take(v, fits) }) || view.Try(func() { ankr.Take(view.View{}, fits) }) || view.Try(func() { ankr.Take(v.Cut(3, len(b)-1), fits) }) {
		t.Error("Take of no table doesn't throw")
	}
}

func TestZero(t *testing.T) {
	has(t, "the zero Table", new(ankr.Table), nil)
	has(t, "another zero Table", &ankr.Table{}, nil)
}

// P2: the font's bytes aren't changed, and Read doesn't keep them.
func TestBytesAreNotKept(t *testing.T) {
	b, want := plain()
	b = append(b, 1, 2, 3)[:len(b)]
	was := bytes.Clone(b[:cap(b)])
	x := table(t, b)
	has(t, "Read", x, want)
	has(t, "Take", ankr.Take(view.Of(b), fits), want)
	if !bytes.Equal(b[:cap(b)], was) {
		t.Errorf("the bytes were changed: %x", b)
	}
	for _, n := range []byte{0, 0xFF} {
		for i := range b {
			b[i] = n
		}
		has(t, "a table behind a change of the bytes", x, want)
	}
}

// P24.3

func TestExample(t *testing.T) {
	b, _ := plain()
	if p, ok := table(t, b).Get(5, 0); p != (ankr.Point{X: 3, Y: -4}) || !ok {
		t.Error("the document's example:", p, ok)
	}
}

// All glyphs have the same points, or each has its own: a table of them is read in no time.
func TestAllGlyphs(t *testing.T) {
	l := make([]int, 20000)
	alike := laid(words(2, 6, 1, 0, 0, 0, 0xFFFF, 0, 0), row(l...))
	x := table(t, alike)
	for _, id := range []int{0, 1, 0x7FFF, 0xFFFE} {
		if n := x.Count(id); n != 10000 {
			t.Errorf("Count(%d): %d", id, n)
		}
	}
	places := make([]int, 0xFFFF)
	for i := range places {
		places[i] = i
	}
	x = table(t, laid(gives(0, places...), make([]byte, 0x10002)))
	for _, id := range []int{0, 1, 0x7FFF, 0xFFFE} {
		if n := x.Count(id); n != 0 {
			t.Errorf("Count(%d): %d", id, n)
		}
	}
	refused(t, "one that isn't there of all glyphs", laid(gives(0, places...), make([]byte, 0x10001)), fits)
}

// some: a table's bytes, and the points of its glyphs.
func some(r *rand.Rand) ([]byte, points) {
	var l []byte
	var places []int
	var all [][]ankr.Point
	for range 1 + r.Intn(4) {
		l = append(l, make([]byte, r.Intn(3))...)
		places = append(places, len(l))
		var of []ankr.Point
		var numbers []int
		for range r.Intn(4) {
			p := ankr.Point{X: r.Intn(1<<16) - 1<<15, Y: r.Intn(100) - 50}
			of, numbers = append(of, p), append(numbers, p.X, p.Y)
		}
		all = append(all, of)
		l = append(l, row(numbers...)...)
	}
	want := points{}
	first := r.Intn(6)
	var numbers, singles []int
	n := r.Intn(6)
	for id := first; id < first+n; id++ {
		i := r.Intn(len(places))
		want[id] = all[i]
		numbers = append(numbers, places[i])
		singles = append(singles, id, places[i])
	}
	lookup := gives(first, numbers...)
	if r.Intn(2) == 0 {
		lookup = append(words(6, 4, n, 0, 0, 0), words(singles...)...)
	}
	return laid(lookup, l), want
}

func TestAnyPoints(t *testing.T) {
	r := rand.New(rand.NewSource(24))
	for range 3000 {
		b, want := some(r)
		has(t, "any table", table(t, b), want)
		if t.Failed() {
			t.Fatalf("the table %x", b)
		}
	}
}

// P1: whatever bytes there are, Read ends, and so does each call of what it answers.
func TestAnyBytes(t *testing.T) {
	r := rand.New(rand.NewSource(124))
	read, not := 0, 0
	for range 50000 {
		b, _ := some(r)
		for range 1 + r.Intn(3) {
			b[r.Intn(len(b))] = byte([]int{r.Intn(256), r.Intn(9), 0, 0xFF}[r.Intn(4)])
		}
		x, e := ankr.Read(b, 1+r.Intn(12))
		if (x == nil) != (e != api.OK) || e != api.OK && e != api.ErrForm {
			t.Fatalf("Read of %x: %v, %v", b, x, e)
		}
		if e != api.OK {
			not++
			continue
		}
		read++
		for id := range 300 {
			n := x.Count(id)
			for _, i := range []int{-1, 0, n - 1, n, r.Intn(10)} {
				if p, ok := x.Get(id, i); ok != (0 <= i && i < n) || !ok && p != (ankr.Point{}) {
					t.Fatalf("%x: Get(%d, %d): %v, %v, of %d", b, id, i, p, ok, n)
				}
			}
		}
	}
	if read < 3000 || not < 3000 {
		t.Error("too few tables were read, or refused", read, not)
	}
}
