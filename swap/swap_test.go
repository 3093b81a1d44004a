package swap_test

import (
	"bytes"
	"encoding/binary"
	"math"
	"math/rand"
	"slices"
	"testing"

	"swash/api"
	"swash/line"
	"swash/swap"
	"swash/view"
)

const fits = 9 // glyphs of the tests' font

// words: each one's two bytes.
func words(l ...int) []byte {
	var b []byte
	for _, n := range l {
		b = binary.BigEndian.AppendUint16(b, uint16(n))
	}
	return b
}

// gives: a lookup that gives glyphs from one on others.
func gives(first int, ids ...int) []byte { return words(append([]int{8, first, len(ids)}, ids...)...) }

// rows: a lookup of a format that has rows of so many bytes.
func rows(format, size int, l ...int) []byte {
	return append(words(format, size, 2*len(l)/size, 0, 0, 0), words(l...)...)
}

// formats: one lookup of each, and what it makes of 4, 5, 6, 9.
func formats() []struct {
	of   []byte
	want []int
} {
	return []struct {
		of   []byte
		want []int
	}{
		{words(0, 10, 11, 12, 13, 14, 15, 16, 17, 18), []int{14, 15, 16, 9}},
		{rows(2, 6, 5, 4, 11, 9, 9, 12), []int{11, 11, 6, 12}},
		{append(rows(4, 6, 5, 4, 24, 9, 9, 26), words(11, 12)...), []int{11, 12, 6, 12}},
		{rows(6, 4, 4, 11, 6, 12), []int{11, 5, 12, 9}},
		{gives(5, 11, 12), []int{4, 11, 12, 9}},
		{append(words(10, 1, 5, 2), 11, 12), []int{4, 11, 12, 9}},
		{words(10, 4, 5, 2, 1, 11, 0x8000, 12), []int{4, 65536 + 11, 1<<31 + 12, 9}},
	}
}

// made: what a subtable makes of some glyphs; their clusters stay.
func made(t *testing.T, what string, x *swap.Table, ids, want []int) {
	t.Helper()
	if x == nil {
		t.Errorf("%s: no subtable", what)
		return
	}
	b := line.New(ids...)
	if e := x.Run(b); e != api.OK || !slices.Equal(b.Glyphs(), line.New(want...).Glyphs()) {
		t.Errorf("%s: of %v %v, %v, not %v", what, ids, b.Glyphs(), e, want)
	}
}

// table: the subtable that bytes begin with.
func table(t *testing.T, b []byte) *swap.Table {
	t.Helper()
	x, e := swap.Read(b, fits)
	if e != api.OK || x == nil {
		t.Fatal("a test's subtable:", e)
	}
	return x
}

func refused(t *testing.T, what string, b []byte, glyphs int) {
	t.Helper()
	if x, e := swap.Read(b, glyphs); x != nil || e != api.ErrForm {
		t.Errorf("Read of %s: %v, %v", what, x, e)
	}
	if view.Try(func() { swap.Take(view.Of(b), glyphs) }) {
		t.Errorf("Take of %s doesn't throw", what)
	}
}

// P16.1

// Each byte of a lookup of numbers of two bytes is needed, and none behind.
func TestFormats(t *testing.T) {
	ids := []int{4, 5, 6, 9}
	for _, c := range formats() {
		for _, more := range [][]byte{nil, {0xFF}, make([]byte, 50)} {
			b := slices.Concat(c.of, more)
			made(t, "Read", table(t, b), ids, c.want)
			var x *swap.Table
			if !view.Try(func() { x = swap.Take(view.Of(b), fits) }) {
				t.Errorf("Take of %x throws", b)
			}
			made(t, "Take", x, ids, c.want)
		}
		for n := range c.of {
			refused(t, "less than all bytes", c.of[:n], fits)
		}
	}
}

func TestReadOfNoLookup(t *testing.T) {
	for _, b := range [][]byte{
		words(1, 0, 0, 0, 0, 0, 0), words(3, 0, 0, 0, 0, 0, 0), words(0xFFFF, 0, 0), words(10, 3, 5, 0), words(10, 8, 5, 0),
		rows(6, 2, 4), rows(2, 4, 5, 4), rows(2, 6, 4, 5, 11), rows(6, 4, 6, 11, 4, 12), append(words(8, 65535, 2), 0, 0, 0, 0),
	} {
		refused(t, "no lookup", b, fits)
	}
}

func TestReadOfWrongArguments(t *testing.T) {
	for _, glyphs := range []int{0, -1, -65535, 65536, 1<<32 + 1, math.MinInt, math.MaxInt} {
		for _, b := range [][]byte{gives(5, 6), nil, {1}} {
			if x, e := swap.Read(b, glyphs); x != nil || e != api.ErrArg {
				t.Errorf("Read of %d bytes, %d glyphs: %v, %v", len(b), glyphs, x, e)
			}
		}
	}
	for _, glyphs := range []int{1, 2, fits, 65534, 65535} {
		x, e := swap.Read(gives(5, 6), glyphs)
		if e != api.OK {
			t.Errorf("Read of %d glyphs: %v", glyphs, e)
		}
		made(t, "Read", x, []int{5}, []int{6})
		refused(t, "no bytes", nil, glyphs)
	}
}

// A lookup of a number for each glyph has as many as the font has glyphs.
func TestGlyphsOfTheFont(t *testing.T) {
	b := words(0, 1, 2, 3, 4, 5)
	for glyphs := 1; glyphs < 9; glyphs++ {
		if glyphs > 5 {
			refused(t, "a lookup of five glyphs", b, glyphs)
			continue
		}
		x, e := swap.Read(b, glyphs)
		if e != api.OK {
			t.Errorf("Read of %d glyphs: %v", glyphs, e)
		}
		want := []int{1, 2, 3, 4, 5, 5, 6}
		for i := glyphs; i < 5; i++ {
			want[i] = i
		}
		made(t, "a lookup for some glyphs", x, []int{0, 1, 2, 3, 4, 5, 6}, want)
	}
}

func TestTake(t *testing.T) {
	v := view.Of(slices.Concat([]byte{1, 2, 3}, gives(5, 6)))
	var x *swap.Table
	if !view.Try(func() { x = swap.Take(v.Rest(3), fits) }) {
		t.Fatal("Take throws")
	}
	made(t, "Take", x, []int{4, 5, 6}, []int{4, 6, 6})
	if view.Try(func() { swap.Take(v, fits) }) || view.Try(func() { swap.Take(view.View{}, fits) }) {
		t.Error("Take of no lookup doesn't throw")
	}
}

// The font's bytes are neither changed nor kept.
func TestBytesAreNotKept(t *testing.T) {
	for _, c := range formats() {
		b := bytes.Clone(c.of)
		x, y := table(t, b), swap.Take(view.Of(b), fits)
		x.Run(line.New(4, 5, 6, 9))
		if !bytes.Equal(b, c.of) {
			t.Errorf("the bytes were changed: %x", b)
		}
		clear(b)
		made(t, "Run behind a change of the bytes", x, []int{4, 5, 6, 9}, c.want)
		made(t, "Run behind a change of the bytes", y, []int{4, 5, 6, 9}, c.want)
	}
}

// The lookup's own calls are the subtable's.
func TestLookup(t *testing.T) {
	x := table(t, gives(5, 7, 9))
	n, ok := x.Get(6)
	if x.Format() != 8 || x.Most() != 9 || n != 9 || !ok {
		t.Error("the lookup", x.Format(), x.Most(), n, ok)
	}
	for id, n := range x.All() {
		if id != 5 || n != 7 {
			t.Error("All", id, n)
		}
		break
	}
}

// P16.2

// What a glyph becomes isn't looked up again.
func TestExample(t *testing.T) {
	x := table(t, gives(5, 6, 7))
	made(t, "the document's example", x, []int{5, 6}, []int{6, 7})
	made(t, "the other way round", x, []int{6, 5}, []int{7, 6})
	made(t, "some", x, []int{5, 5, 4, 6, 7, 6, 5}, []int{6, 6, 4, 7, 7, 7, 6})
	made(t, "glyphs that change places", table(t, gives(5, 6, 5)), []int{5, 6, 6, 4}, []int{6, 5, 5, 4})
	made(t, "a lookup of no glyph", table(t, gives(5)), []int{5, 6}, []int{5, 6})
	made(t, "a glyph that stays", table(t, gives(5, 5)), []int{5, 6}, []int{5, 6})
	made(t, "no glyphs", x, nil, nil)
	var zero line.Line
	if e := x.Run(&zero); e != api.OK || zero.Len() != 0 {
		t.Error("the zero Line", zero.Glyphs(), e)
	}
}

// Glyphs that the lookup doesn't know, or that no font has, stay.
func TestOtherGlyphs(t *testing.T) {
	ids := []int{-1, math.MinInt, math.MaxInt, 65536, 65536 + 5, 1<<32 + 5, 4, 8, 65534}
	made(t, "other glyphs", table(t, gives(5, 10, 11, 12)), ids, ids)
	made(t, "a glyph that the font hasn't", table(t, gives(500, 1)), []int{500, 501}, []int{1, 501})
}

// A deleted one stays so, whatever the lookup says; a glyph may become one.
func TestDeleted(t *testing.T) {
	const no = api.Deleted
	made(t, "a lookup of deleted ones", table(t, gives(65534, 4, 5)), []int{no, 65534, no, 6}, []int{no, 4, no, 6})
	made(t, "a part with deleted ones", table(t, rows(2, 6, 65535, 65533, 4)), []int{no, 65534, 65532}, []int{no, 4, 65532})
	made(t, "glyphs that become deleted", table(t, gives(5, no, 8)), []int{5, 6, no, 5}, []int{no, 8, no, no})
}

func TestClustersStay(t *testing.T) {
	b := line.Of([]api.Glyph{{ID: 5, Cluster: 7}, {ID: api.Deleted, Cluster: 3}, {ID: 6, Cluster: 3}, {ID: 5, Cluster: -9}, {ID: 4, Cluster: 0}})
	want := []api.Glyph{{ID: 6, Cluster: 7}, {ID: api.Deleted, Cluster: 3}, {ID: 7, Cluster: 3}, {ID: 6, Cluster: -9}, {ID: 4, Cluster: 0}}
	if e := table(t, gives(5, 6, 7)).Run(b); e != api.OK || !slices.Equal(b.Glyphs(), want) {
		t.Error("clusters", b.Glyphs(), e)
	}
}

func TestRunAgain(t *testing.T) {
	x := table(t, gives(5, 6, 7))
	b := line.New(5, 6, 4)
	for _, want := range [][]int{{6, 7, 4}, {7, 7, 4}, {7, 7, 4}} {
		if e := x.Run(b); e != api.OK || !slices.Equal(b.Glyphs(), line.New(want...).Glyphs()) {
			t.Errorf("a run: %v, %v, not %v", b.Glyphs(), e, want)
		}
		made(t, "another line", x, []int{5, 6}, []int{6, 7})
	}
}

func TestLongLine(t *testing.T) {
	made(t, "a long line", table(t, gives(5, 6, 7)), slices.Repeat([]int{4, 5, 6}, 65536), slices.Repeat([]int{4, 6, 7}, 65536))
}

func TestAnyRuns(t *testing.T) {
	r := rand.New(rand.NewSource(16))
	any := func() int { return []int{r.Intn(12), r.Intn(12), 65530 + r.Intn(6), api.Deleted}[r.Intn(4)] }
	for range 20000 {
		first := []int{r.Intn(12), 65530}[r.Intn(2)]
		var to []int
		for range r.Intn(7) {
			to = append(to, any())
		}
		var ids, want []int
		for range r.Intn(12) {
			id := any()
			ids = append(ids, id)
			if id != api.Deleted && id >= first && id < first+len(to) {
				id = to[id-first]
			}
			want = append(want, id)
		}
		made(t, "a run", table(t, gives(first, to...)), ids, want)
		if t.Failed() {
			return
		}
	}
}

// P1: whatever bytes there are, Read ends, and so does a run of what it answers.
func TestAnyBytes(t *testing.T) {
	r := rand.New(rand.NewSource(116))
	read := 0
	for range 50000 {
		b := bytes.Clone(formats()[r.Intn(7)].of)
		for range 1 + r.Intn(3) {
			b[r.Intn(len(b))] = byte([]int{r.Intn(256), r.Intn(12), 0, 0xFF}[r.Intn(4)])
		}
		x, e := swap.Read(b, 1+r.Intn(12))
		if (x == nil) != (e != api.OK) || e != api.OK && e != api.ErrForm {
			t.Fatalf("Read of %x: %v, %v", b, x, e)
		}
		if e == api.OK {
			read++
			if e := x.Run(line.New(r.Intn(9), r.Intn(9), api.Deleted, -1)); e != api.OK {
				t.Fatalf("Run of %x: %v", b, e)
			}
		}
	}
	if read < 3000 {
		t.Error("too few subtables were read", read)
	}
}
