package lookup_test

import (
	"bytes"
	"encoding/binary"
	"maps"
	"math"
	"math/rand"
	"slices"
	"testing"

	"swash/api"
	"swash/lookup"
	"swash/view"
)

// words: each one's two bytes.
func words(l ...int) []byte {
	var b []byte
	for _, n := range l {
		b = binary.BigEndian.AppendUint16(b, uint16(n))
	}
	return b
}

// sized: each one's bytes, so many.
func sized(size int, l ...int) []byte {
	var b []byte
	for _, n := range l {
		b = append(b, binary.BigEndian.AppendUint32(nil, uint32(n))[4-size:]...)
	}
	return b
}

// rows: a lookup of that format, of rows that have all the same number of bytes.
func rows(format int, l ...[]byte) []byte {
	size := 0
	if len(l) > 0 {
		size = len(l[0])
	} else {
		size = 8 // enough for any
	}
	return append(words(format, size, len(l), 0x1234, 0xFFFF, 0x8001), slices.Concat(l...)...)
}

// numbers: which glyph has which number.
type numbers map[int]int

// taken: the lookup that the bytes begin with has these numbers, by Take and by Read.
func taken(t *testing.T, what string, b []byte, glyphs, size int, want numbers) {
	t.Helper()
	l, e := lookup.Read(b, glyphs, size)
	if e != api.OK || l == nil {
		t.Errorf("Read of %s: %v", what, e)
		return
	}
	has(t, "Read of "+what, l, int(b[0])<<8+int(b[1]), want)
	if !view.Try(func() { l = lookup.Take(view.Of(b), glyphs, size) }) {
		t.Errorf("Take of %s throws", what)
		return
	}
	has(t, "Take of "+what, l, int(b[0])<<8+int(b[1]), want)
}

// has: a lookup has that format and these numbers.
func has(t *testing.T, what string, l *lookup.Table, format int, want numbers) {
	t.Helper()
	if l.Format() != format {
		t.Errorf("%s: format %d, not %d", what, l.Format(), format)
	}
	last, most, all := -1, -1, 0
	for id, n := range l.All() {
		if x, ok := want[id]; !ok || x != n || id <= last {
			t.Errorf("%s: behind %d, All tells %d, %d", what, last, id, n)
			return
		}
		last, most, all = id, max(most, n), all+1
	}
	if all != len(want) {
		t.Errorf("%s: All tells %d glyphs, not %d", what, all, len(want))
	}
	if l.Most() != most {
		t.Errorf("%s: Most is %d, not %d", what, l.Most(), most)
	}
	for id := -2; id < 65540; id++ {
		if n, ok := l.Get(id); n != want[id] {
			t.Errorf("%s: Get(%d): %d, %v", what, id, n, ok)
			return
		} else if _, is := want[id]; is != ok {
			t.Errorf("%s: Get(%d): %d, %v", what, id, n, ok)
			return
		}
	}
	for _, id := range []int{math.MinInt, -1 << 32, -65536, 1 << 17, 1 << 32, 1<<32 + 5, math.MaxInt} {
		if n, ok := l.Get(id); n != 0 || ok {
			t.Errorf("%s: Get(%d): %d, %v", what, id, n, ok)
		}
	}
}

func refused(t *testing.T, what string, b []byte, glyphs, size int) {
	t.Helper()
	if l, e := lookup.Read(b, glyphs, size); e != api.ErrForm || l != nil {
		t.Errorf("Read of %s: %v, %v", what, l, e)
	}
	if view.Try(func() { lookup.Take(view.Of(b), glyphs, size) }) {
		t.Errorf("Take of %s doesn't throw", what)
	}
}

// lacking: every lookup of fewer bytes than it takes is refused, and more don't matter.
func lacking(t *testing.T, what string, b []byte, glyphs, size int, want numbers) {
	t.Helper()
	taken(t, what, b, glyphs, size, want)
	taken(t, what+" and bytes behind", append(slices.Clip(b), 9, 9, 9), glyphs, size, want)
	for n := range b {
		refused(t, "less than all bytes of "+what, b[:n], glyphs, size)
	}
}

// both: of numbers of two bytes, and of four.
var both = []int{2, 4}

// P6.1 and P6.3, format by format

func TestExample(t *testing.T) {
	taken(t, "the document's example", []byte{0, 8, 0, 5, 0, 2, 0, 7, 0, 9}, 10, 2, numbers{5: 7, 6: 9})
}

func TestNumberForEachGlyph(t *testing.T) {
	lacking(t, "format 0", append(words(0), words(7, 0, 65535, 3)...), 4, 2, numbers{0: 7, 1: 0, 2: 65535, 3: 3})
	lacking(t, "format 0 of four bytes", append(words(0), sized(4, 1<<32-1, 0, 65536)...), 3, 4, numbers{0: 1<<32 - 1, 1: 0, 2: 65536})
	lacking(t, "format 0 of one glyph", words(0, 8), 1, 2, numbers{0: 8})
	// glyphs that the font hasn't have none
	taken(t, "format 0 of more numbers than glyphs", words(0, 1, 2, 3, 4), 2, 2, numbers{0: 1, 1: 2})
	want := numbers{}
	b := words(0)
	for i := range 65535 {
		want[i] = i * 3 % 65536
		b = append(b, words(i*3%65536)...)
	}
	taken(t, "format 0 of all glyphs", b, 65535, 2, want)
	refused(t, "format 0 without its last byte", b[:len(b)-1], 65535, 2)
}

func TestPartsOfOneNumber(t *testing.T) {
	for _, size := range both {
		b := rows(2, append(words(4, 2), sized(size, 9)...), append(words(5, 5), sized(size, 65535)...), append(words(300, 298), sized(size, 0)...))
		lacking(t, "format 2", b, 9, size, numbers{2: 9, 3: 9, 4: 9, 5: 65535, 298: 0, 299: 0, 300: 0})
		taken(t, "format 2 without parts", rows(2), 9, size, nil)
		taken(t, "format 2 of an end alone", rows(2, append(words(0xFFFF, 0xFFFF), sized(size, 5)...)), 9, size, nil)
		taken(t, "format 2 with an end", rows(2, append(words(1, 0), sized(size, 5)...), append(words(0xFFFF, 0xFFFF), sized(size, 6)...)), 9, size, numbers{0: 5, 1: 5})
		taken(t, "format 2 of wide rows", rows(2, append(words(3, 2), append(sized(size, 5), 1, 2, 3)...)), 9, size, numbers{2: 5, 3: 5})
	}
	taken(t, "format 2 of four bytes", rows(2, append(words(3, 2), sized(4, 1<<32-2)...)), 9, 4, numbers{2: 1<<32 - 2, 3: 1<<32 - 2})
	refused(t, "format 2 of rows for two bytes", rows(2, words(3, 2, 0)), 9, 4)
	refused(t, "format 2 of rows of seven bytes", rows(2, append(words(3, 2, 0), 0)), 9, 4)
	refused(t, "format 2 of rows of five bytes", rows(2, append(words(3, 2), 0)), 9, 2)
}

func TestPartsOfManyNumbers(t *testing.T) {
	for _, size := range both {
		// header, three rows of six bytes, and the numbers from 30 on; two parts share some
		b := rows(4, words(4, 2, 30), words(5, 5, 30+2*size), words(300, 298, 30+size))
		b = append(b, sized(size, 9, 65535, 0, 7)...)
		lacking(t, "format 4", b, 9, size, numbers{2: 9, 3: 65535, 4: 0, 5: 0, 298: 65535, 299: 0, 300: 7})
		taken(t, "format 4 without parts", rows(4), 9, size, nil)
		taken(t, "format 4 of an end alone", rows(4, words(0xFFFF, 0xFFFF, 0xFFFF)), 9, size, nil)
		taken(t, "format 4 with an end", append(rows(4, words(1, 1, 24), words(0xFFFF, 0xFFFF, 0xFFFF)), sized(size, 3)...), 9, size, numbers{1: 3})
		taken(t, "format 4 of wide rows", append(rows(4, words(1, 1, 20, 99)), sized(size, 3)...), 9, size, numbers{1: 3})
	}
	// the numbers may stand anywhere from the lookup's beginning on
	taken(t, "format 4 of its own header", rows(4, words(2, 0, 0)), 9, 2, numbers{0: 4, 1: 6, 2: 1})
	taken(t, "format 4 of its own end", rows(4, words(2, 0, 12)), 9, 2, numbers{0: 2, 1: 0, 2: 12})
	refused(t, "format 4 beside the bytes", rows(4, words(2, 0, 13)), 9, 2)
	refused(t, "format 4 far beside the bytes", rows(4, words(2, 2, 65535)), 9, 2)
	refused(t, "format 4 at the bytes' end", rows(4, words(2, 2, 18)), 9, 2)
	refused(t, "format 4 of rows of five bytes", rows(4, append(words(2, 2), 0)), 9, 2)
	refused(t, "format 4 of a part beside the bytes", append(rows(4, words(2, 2, 24), words(9, 8, 24)), 0, 1, 0), 9, 2)
	taken(t, "format 4 of a number at 24", append(rows(4, words(2, 2, 24), words(9, 8, 24)), 0, 1, 0, 2), 9, 2, numbers{2: 1, 8: 1, 9: 2})
}

func TestGlyphsOneByOne(t *testing.T) {
	for _, size := range both {
		b := rows(6, append(words(2), sized(size, 9)...), append(words(3), sized(size, 65535)...), append(words(300), sized(size, 0)...))
		lacking(t, "format 6", b, 9, size, numbers{2: 9, 3: 65535, 300: 0})
		taken(t, "format 6 without glyphs", rows(6), 9, size, nil)
		taken(t, "format 6 of an end alone", rows(6, append(words(0xFFFF), sized(size, 5)...)), 9, size, nil)
		taken(t, "format 6 with an end", rows(6, append(words(1), sized(size, 5)...), append(words(0xFFFF), sized(size, 5)...)), 9, size, numbers{1: 5})
		taken(t, "format 6 of wide rows", rows(6, append(words(1), append(sized(size, 5), 9)...)), 9, size, numbers{1: 5})
	}
	taken(t, "format 6 of four bytes", rows(6, append(words(3), sized(4, 1<<31)...)), 9, 4, numbers{3: 1 << 31})
	refused(t, "format 6 of rows of five bytes", rows(6, append(words(3, 2), 0)), 9, 4)
	refused(t, "format 6 of rows of three bytes", rows(6, append(words(3), 2)), 9, 2)
}

func TestTrimmed(t *testing.T) {
	for _, size := range both {
		b := append(words(8, 298, 3), sized(size, 9, 65535, 0)...)
		lacking(t, "format 8", b, 9, size, numbers{298: 9, 299: 65535, 300: 0})
		lacking(t, "format 8 without glyphs", words(8, 5, 0), 9, size, nil)
		taken(t, "format 8 without glyphs, as high as can be", words(8, 65535, 0), 9, size, nil)
		taken(t, "format 8 of the highest glyph", append(words(8, 65535, 1), sized(size, 5)...), 9, size, numbers{65535: 5})
		refused(t, "format 8 of a glyph too high", append(words(8, 65535, 2), sized(size, 5, 6)...), 9, size)
		refused(t, "format 8 of glyphs too high", append(words(8, 2, 65535), make([]byte, 65535*size)...), 9, size)
		want := numbers{}
		for i := 1; i < 65536; i++ {
			want[i] = 0
		}
		taken(t, "format 8 of nearly all", append(words(8, 1, 65535), make([]byte, 65535*size)...), 9, size, want)
	}
	taken(t, "format 8 of four bytes", append(words(8, 5, 1), sized(4, 1<<32-1)...), 9, 4, numbers{5: 1<<32 - 1})
}

func TestTrimmedWithBytesOfItsOwn(t *testing.T) {
	for _, size := range both {
		for _, own := range []int{1, 2, 4} {
			b := append(words(10, own, 298, 3), sized(own, 9, 255, 0)...)
			lacking(t, "format 10", b, 9, size, numbers{298: 9, 299: 255, 300: 0})
			lacking(t, "format 10 without glyphs", words(10, own, 5, 0), 9, size, nil)
			taken(t, "format 10 of the highest glyph", append(words(10, own, 65535, 1), sized(own, 5)...), 9, size, numbers{65535: 5})
			refused(t, "format 10 of a glyph too high", append(words(10, own, 65535, 2), sized(own, 5, 6)...), 9, size)
			greatest := 1<<(8*own) - 1
			taken(t, "format 10 of the greatest number", append(words(10, own, 7, 1), sized(own, greatest)...), 9, size, numbers{7: greatest})
		}
		for _, own := range []int{0, 3, 5, 6, 7, 8, 16, 256, 0x0102, 0x8002, 65535} {
			refused(t, "format 10 of other bytes", append(words(10, own, 1, 1), make([]byte, 1<<17)...), 9, size)
			refused(t, "format 10 of other bytes without glyphs", append(words(10, own, 1, 0), make([]byte, 99)...), 9, size)
		}
	}
}

func TestOtherFormats(t *testing.T) {
	for format := range 65536 {
		b := append(words(format), make([]byte, 40)...)
		_, e := lookup.Read(b, 3, 2)
		is := format == 0 || format == 8 // formats of rows lack the rows' bytes, 10 those of a number
		if is != (e == api.OK) || !is && e != api.ErrForm {
			t.Errorf("format %d: %v", format, e)
		}
	}
	for _, format := range []int{1, 3, 5, 7, 9, 11, 12, 256, 512, 0x0800, 0x8000, 65535} {
		refused(t, "another format", rows(format), 3, 2)
	}
}

// The first glyph of a part isn't above the last one.
func TestPartsTurned(t *testing.T) {
	for _, c := range [][2]int{{4, 5}, {0, 1}, {0, 65535}, {65534, 65535}, {4, 6}, {4, 300}} {
		refused(t, "format 2 of a turned part", rows(2, words(c[0], c[1], 7)), 9, 2)
		refused(t, "format 4 of a turned part", append(rows(4, words(c[0], c[1], 18)), make([]byte, 99)...), 9, 2)
		refused(t, "format 2 of a turned part behind another", rows(2, words(1, 0, 7), words(c[0], c[1], 7)), 9, 2)
	}
	taken(t, "a part of one glyph", rows(2, words(4, 4, 7)), 9, 2, numbers{4: 7})
}

// Each begins above the end of the one ahead.
func TestPartsThatDontRise(t *testing.T) {
	for first := range 12 {
		ahead, it := words(6, 4, 7), words(max(first, 8), first, 8)
		want := numbers{4: 7, 5: 7, 6: 7}
		for i := first; i <= max(first, 8); i++ {
			want[i] = 8
		}
		apart := append(rows(4, words(6, 4, 24), words(max(first, 8), first, 24)), bytes.Repeat([]byte{0, 3}, 12)...)
		single := rows(6, words(6, 7), words(first, 8))
		if first > 6 {
			taken(t, "format 2 of parts that rise", rows(2, ahead, it), 9, 2, want)
			for i := range want {
				want[i] = 3
			}
			taken(t, "format 4 of parts that rise", apart, 9, 2, want)
			taken(t, "format 6 of glyphs that rise", single, 9, 2, numbers{6: 7, first: 8})
		} else {
			refused(t, "format 2 of parts that don't rise", rows(2, ahead, it), 9, 2)
			refused(t, "format 4 of parts that don't rise", apart, 9, 2)
			refused(t, "format 6 of glyphs that don't rise", single, 9, 2)
		}
	}
	refused(t, "a third part that doesn't rise", rows(2, words(1, 1, 7), words(9, 5, 7), words(9, 9, 7)), 9, 2)
	refused(t, "a third glyph that doesn't rise", rows(6, words(1, 7), words(5, 7), words(3, 7)), 9, 2)
}

// An end stands at the end alone, and then 0xFFFF may have a number ahead of it.
func TestEnds(t *testing.T) {
	refused(t, "format 2 with an end too early", rows(2, words(0xFFFF, 0xFFFF, 7), words(3, 3, 7)), 9, 2)
	refused(t, "format 6 with an end too early", rows(6, words(0xFFFF, 7), words(3, 7)), 9, 2)
	taken(t, "format 2 with two ends", rows(2, words(0xFFFF, 0xFFFF, 7), words(0xFFFF, 0xFFFF, 8)), 9, 2, numbers{65535: 7})
	taken(t, "format 6 with two ends", rows(6, words(0xFFFF, 7), words(0xFFFF, 8)), 9, 2, numbers{65535: 7})
	taken(t, "format 4 with two ends", append(rows(4, words(0xFFFF, 0xFFFF, 24), words(0xFFFF, 0xFFFF, 0)), 0, 5), 9, 2, numbers{65535: 5})
	taken(t, "format 2 up to the highest glyph", rows(2, words(0xFFFF, 0xFFFD, 7)), 9, 2, numbers{65533: 7, 65534: 7, 65535: 7})
	taken(t, "format 4 up to the highest glyph", append(rows(4, words(0xFFFF, 0xFFFE, 18)), 0, 5, 0, 6), 9, 2, numbers{65534: 5, 65535: 6})
	taken(t, "format 2 of 0xFFFF ahead", rows(2, words(3, 3, 0xFFFF)), 9, 2, numbers{3: 65535})
	all := numbers{}
	for i := range 65536 {
		all[i] = 6
	}
	taken(t, "format 2 of all glyphs", rows(2, words(0xFFFF, 0, 6)), 9, 2, all)
}

// In all formats but 0 a glyph that the font hasn't may have a number.
func TestGlyphsThatTheFontHasnt(t *testing.T) {
	want := numbers{7: 3, 8: 4}
	for _, glyphs := range []int{1, 7, 8, 9, 65535} {
		taken(t, "format 2", rows(2, words(7, 7, 3), words(8, 8, 4)), glyphs, 2, want)
		taken(t, "format 4", append(rows(4, words(8, 7, 18)), 0, 3, 0, 4), glyphs, 2, want)
		taken(t, "format 6", rows(6, words(7, 3), words(8, 4)), glyphs, 2, want)
		taken(t, "format 8", words(8, 7, 2, 3, 4), glyphs, 2, want)
		taken(t, "format 10", append(words(10, 1, 7, 2), 3, 4), glyphs, 2, want)
	}
}

// P6.2

func TestArguments(t *testing.T) {
	one := append(words(8, 5, 1), sized(4, 7)...)
	far := []int{math.MinInt, -1 << 32, -65535, -2, -1, 0, 1, 2, 3, 4, 5, 8, 65534, 65535, 65536, 65537, 1 << 31, 1 << 32, 1<<32 + 2, math.MaxInt}
	for _, glyphs := range far {
		for _, size := range far {
			good, bad := api.OK, api.ErrForm
			if glyphs < 1 || glyphs > lookup.MaxGlyphs || size != 2 && size != 4 {
				good, bad = api.ErrArg, api.ErrArg
			}
			if l, e := lookup.Read(one, glyphs, size); e != good || (l != nil) != (good == api.OK) {
				t.Errorf("Read with %d glyphs, size %d: %v, not %v", glyphs, size, e, good)
			}
			if l, e := lookup.Read(nil, glyphs, size); e != bad || l != nil {
				t.Errorf("Read of nothing with %d glyphs, size %d: %v, not %v", glyphs, size, e, bad)
			}
			for _, b := range [][]byte{nil, one, words(0, 1, 2), rows(2, words(3, 2, 1)), rows(4, words(3, 2, 1)), rows(6, words(3, 2)), words(10, 1, 2, 0)} {
				view.Try(func() { lookup.Take(view.Of(b), glyphs, size) }) // it ends, and when it panics it throws
			}
		}
	}
	if lookup.MaxGlyphs != 65535 {
		t.Error("MaxGlyphs", lookup.MaxGlyphs)
	}
}

// A Table doesn't hang on its bytes, whichever call made it, and no call changes them.
func TestNothingIsChangedOrKept(t *testing.T) {
	want := numbers{2: 1, 3: 2}
	for _, b := range [][]byte{
		rows(2, words(2, 2, 1), words(3, 3, 2)), append(rows(4, words(3, 2, 18)), 0, 1, 0, 2), rows(6, words(2, 1), words(3, 2)), words(8, 2, 2, 1, 2), append(words(10, 1, 2, 2), 1, 2),
	} {
		was, format := bytes.Clone(b), int(b[1])
		one, other := lookup.Take(view.Of(b), 9, 2), lookup.Take(view.Of(b), 9, 2)
		read, _ := lookup.Read(b, 9, 2)
		has(t, "ahead", one, format, want)
		if !bytes.Equal(b, was) {
			t.Error("the bytes were changed")
		}
		clear(b)
		has(t, "Take behind a change", one, format, want)
		has(t, "another Take behind a change", other, format, want)
		has(t, "Read behind a change", read, format, want)
	}
	b := words(0, 5, 6)
	one := lookup.Take(view.Of(b), 2, 2)
	clear(b)
	has(t, "format 0 behind a change", one, 0, numbers{0: 5, 1: 6})
}

// P6.3

// Who asks may end it at each glyph, and ask again.
func TestAllEndsWhenAsked(t *testing.T) {
	want := []int{2, 3, 4, 7, 9}
	for _, b := range [][]byte{rows(2, words(4, 2, 1), words(7, 7, 2), words(9, 9, 3)), rows(6, words(2, 1), words(3, 1), words(4, 1), words(7, 2), words(9, 3))} {
		l, _ := lookup.Read(b, 9, 2)
		all := l.All()
		for n := range len(want) + 2 {
			var got []int
			all(func(id, _ int) bool {
				got = append(got, id)
				return len(got) < n
			})
			if m := min(max(n, 1), len(want)); !slices.Equal(got, want[:m]) {
				t.Errorf("All, ended at %d: %v", n, got)
			}
		}
		for id := range all { // one within another
			if got := slices.Sorted(maps.Keys(maps.Collect(all))); !slices.Equal(got, want) {
				t.Errorf("All within All, at %d: %v", id, got)
			}
		}
	}
}

func TestMost(t *testing.T) {
	for _, c := range []struct {
		b    []byte
		want int
	}{
		{words(0, 5, 9, 7), 9}, {words(0, 0, 0, 0), 0}, {words(0, 5, 7, 65535), 65535}, {words(0, 65535, 7, 5), 65535}, {words(0, 1, 2, 3, 99), 3},
		{words(8, 9, 0), -1}, {words(8, 9, 1, 0), 0}, {rows(2), -1}, {rows(6, words(0xFFFF, 9)), -1}, {rows(6, words(1, 2), words(0xFFFF, 9)), 2},
		{rows(2, words(3, 2, 8), words(5, 5, 4)), 8},
	} {
		l, e := lookup.Read(c.b, 3, 2)
		if e != api.OK || l.Most() != c.want {
			t.Errorf("Most of %x: %v, %v, not %d", c.b, l, e, c.want)
		}
	}
	l, _ := lookup.Read(append(words(8, 9, 2), sized(4, 1<<32-1, 5)...), 3, 4)
	if l.Most() != 1<<32-1 {
		t.Error("Most of four bytes", l.Most())
	}
}

// model: which numbers a lookup has, as the document says, in another way; false: it is none.
func model(b []byte, glyphs, size int) (numbers, bool) {
	out, ok := numbers{}, true
	get := func(at, n int) int {
		x := 0
		for i := at; i < at+n; i++ {
			if i >= len(b) {
				ok = false
				return 0
			}
			x = x*256 + int(b[i])
		}
		return x
	}
	put := func(id, n int) { out[id] = n }
	format := get(0, 2)
	if format == 0 {
		for i := range glyphs {
			put(i, get(2+i*size, size))
		}
		return out, ok
	}
	if format == 8 || format == 10 {
		own, at := size, 2
		if format == 10 {
			own, at = get(2, 2), 4
		}
		first, n := get(at, 2), get(at+2, 2)
		if own != 1 && own != 2 && own != 4 || first+n > 65536 {
			return nil, false
		}
		for i := range n {
			put(first+i, get(at+4+i*own, own))
		}
		return out, ok
	}
	need, keys := map[int]int{2: 4 + size, 4: 6, 6: 2 + size}[format], 2
	if format == 6 {
		keys = 1
	}
	row, n := get(2, 2), get(4, 2)
	get(2, 10)
	if need == 0 || row < need || 12+row*n > len(b) {
		return nil, false
	}
	low := 0
	for i := range n {
		at := 12 + i*row
		if i == n-1 && get(at, 2*keys) == 1<<(16*keys)-1 {
			break
		}
		last, first := get(at, 2), get(at+2*keys-2, 2)
		if first > last || first < low {
			return nil, false
		}
		low = last + 1
		for id := first; id <= last; id++ {
			if format == 4 {
				put(id, get(get(at+4, 2)+(id-first)*size, size))
			} else {
				put(id, get(at+2*keys, size))
			}
		}
	}
	return out, ok
}

// Bytes that are nearly a lookup: it is one just where the model says so, and then with its numbers.
func TestAnyBytes(t *testing.T) {
	r := rand.New(rand.NewSource(4))
	fine := map[int]int{}
	for range 60000 {
		size := both[r.Intn(2)]
		format := []int{0, 2, 4, 6, 8, 10}[r.Intn(6)]
		b := words(format)
		if format == 10 {
			b = append(b, words(1<<r.Intn(3))...)
		}
		if format == 8 || format == 10 {
			b = append(b, words(r.Intn(20), r.Intn(6))...)
		} else if format > 0 {
			b = append(b, words(4+r.Intn(6), r.Intn(4), 0, 0, 0)...)
			for range r.Intn(4) {
				b = append(b, words(r.Intn(9), r.Intn(9))...)
				b = append(b, make([]byte, r.Intn(6))...)
			}
		}
		for range r.Intn(20) {
			b = append(b, byte(r.Intn(40)))
		}
		for range r.Intn(3) {
			b[r.Intn(len(b))] = byte(r.Intn(256) >> r.Intn(8))
		}
		glyphs := 1 + r.Intn(12)
		want, is := model(b, glyphs, size)
		l, e := lookup.Read(b, glyphs, size)
		if (e == api.OK) != is || e != api.OK && (e != api.ErrForm || l != nil) {
			t.Fatalf("Read of %x, %d glyphs, size %d: %v, not %v", b, glyphs, size, e, is)
		}
		if !is {
			continue
		}
		fine[format]++
		if got := maps.Collect(l.All()); !maps.Equal(got, map[int]int(want)) {
			t.Fatalf("All of %x, %d glyphs, size %d: %v, not %v", b, glyphs, size, got, want)
		}
		for id := -1; id < 50; id++ {
			n, ok := l.Get(id)
			if x, is := want[id]; is != ok || x != n {
				t.Fatalf("Get(%d) of %x: %d, %v, not %d, %v", id, b, n, ok, x, is)
			}
		}
	}
	for _, format := range []int{0, 2, 4, 6, 8, 10} {
		if fine[format] < 100 {
			t.Errorf("few were of format %d: %d", format, fine[format])
		}
	}
}
