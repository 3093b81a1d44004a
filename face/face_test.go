package face_test

import (
	"bytes"
	"encoding/binary"
	"math/rand"
	"slices"
	"testing"

	"swash/api"
	"swash/face"
	"swash/sfnt"
)

// tables are a font's, by their tags.
type tables map[string][]byte

// with: the bytes with a number of two bytes written over them.
func with(b []byte, at, n int) []byte {
	binary.BigEndian.PutUint16(b[at:], uint16(n))
	return b
}

// hand: the tables that a font must have, of just as many bytes as they must have.
func hand(glyphs, em, metrics int) tables {
	head := make([]byte, 54)
	binary.BigEndian.PutUint32(head[12:], 0x5F0F3CF5)
	return tables{
		"maxp": with([]byte{0, 0, 0x50, 0, 0, 0}, 4, glyphs),
		"head": with(head, 18, em),
		"hhea": with(make([]byte, 36), 34, metrics),
	}
}

// font: the bytes of one with these tables.
func (l tables) font() []byte {
	var parts []sfnt.Part
	for tag, data := range l {
		parts = append(parts, sfnt.Part{Tag: tag, Data: data})
	}
	return sfnt.Make(parts...)
}

func taken(t *testing.T, what string, b []byte, want face.Face) {
	t.Helper()
	if got, e := face.Read(b); e != api.OK || got != want {
		t.Errorf("Read of %s: %+v, %v, not %+v", what, got, e, want)
	}
}

func refused(t *testing.T, what string, b []byte) {
	t.Helper()
	if got, e := face.Read(b); e != api.ErrForm || got != (face.Face{}) {
		t.Errorf("Read of %s: %+v, %v", what, got, e)
	}
}

// P3.1

func TestNumbers(t *testing.T) {
	for _, c := range []face.Face{
		{Glyphs: 3, Em: 1000, Metrics: 2}, {Glyphs: 1, Em: 16, Metrics: 1}, {Glyphs: 65535, Em: 16384, Metrics: 65535}, {Glyphs: 65535, Em: 16383, Metrics: 1},
		{Glyphs: 0x8000, Em: 17, Metrics: 0x7FFF}, {Glyphs: 0x102, Em: 0x304, Metrics: 0x101}, {Glyphs: 0x1FF, Em: 2048, Metrics: 0x1FF},
	} {
		taken(t, "a font", hand(c.Glyphs, c.Em, c.Metrics).font(), c)
	}
}

func TestNumbersBeyondTheirBounds(t *testing.T) {
	for _, c := range [][3]int{
		{0, 1000, 0}, {0, 1000, 1}, // no glyph
		{3, 0, 2}, {3, 15, 2}, {3, 16385, 2}, {3, 0x8000, 2}, {3, 65535, 2}, // em
		{3, 1000, 0}, {3, 1000, 4}, {1, 1000, 2}, {65534, 1000, 65535}, {3, 1000, 65535}, {0x7FFF, 1000, 0x8000}, // metrics
	} {
		refused(t, "numbers beyond their bounds", hand(c[0], c[1], c[2]).font())
	}
}

// All of em that two bytes can say.
func TestEveryEm(t *testing.T) {
	for em := range 1 << 16 {
		b := hand(9, em, 4).font()
		if got, e := face.Read(b); (e == api.OK) != (em >= 16 && em <= 16384) || e == api.OK && got.Em != em {
			t.Fatalf("an em of %d: %+v, %v", em, got, e)
		}
	}
}

// Few glyphs with all metrics, and the other way round.
func TestGlyphsAndMetrics(t *testing.T) {
	for glyphs := range 20 {
		for metrics := range 22 {
			b := hand(glyphs, 1000, metrics).font()
			if metrics >= 1 && metrics <= glyphs {
				taken(t, "a font", b, face.Face{Glyphs: glyphs, Em: 1000, Metrics: metrics})
			} else {
				refused(t, "metrics that can't be", b)
			}
		}
	}
}

func TestFirstNumberOfMaxp(t *testing.T) {
	for first, is := range map[uint32]bool{
		0x00010000: true, 0x00005000: true,
		0: false, 0x00010001: false, 0x00005001: false, 0x00015000: false, 0x00020000: false, 0x50000000: false, 0x01005000: false, 0x74727565: false, 0x80010000: false, 0xFFFFFFFF: false,
	} {
		l := hand(3, 1000, 2)
		binary.BigEndian.PutUint32(l["maxp"], first)
		if is {
			taken(t, "a first number that maxp may have", l.font(), face.Face{Glyphs: 3, Em: 1000, Metrics: 2})
		} else {
			refused(t, "another first number of maxp", l.font())
		}
	}
}

// Every bit of head's own number counts.
func TestNumberOfHead(t *testing.T) {
	for bit := range 32 {
		l := hand(3, 1000, 2)
		binary.BigEndian.PutUint32(l["head"][12:], 0x5F0F3CF5^1<<bit)
		refused(t, "another number of head", l.font())
	}
}

func TestTablesThatLack(t *testing.T) {
	for tag := range hand(3, 1000, 2) {
		l := hand(3, 1000, 2)
		l["othr"] = l[tag]
		delete(l, tag)
		refused(t, "a font with another tag than "+tag, l.font())
		delete(l, "othr")
		refused(t, "a font without "+tag, l.font())
	}
	refused(t, "a font with maxp alone", sfnt.Make(sfnt.Part{Tag: "maxp", Data: hand(3, 1000, 2)["maxp"]}))
	refused(t, "a font without tables", sfnt.Make())
}

func TestTablesOfFewBytes(t *testing.T) {
	for tag, data := range hand(3, 1000, 2) {
		for n := range data {
			l := hand(3, 1000, 2)
			l[tag] = data[:n]
			refused(t, "few bytes of "+tag, l.font())
		}
	}
}

// The table's own bytes count, not those that stand behind it in the font.
func TestTablesEnd(t *testing.T) {
	want := face.Face{Glyphs: 3, Em: 1000, Metrics: 2}
	for i, least := range []int{54, 36, 6} { // head, hhea, maxp
		b := hand(3, 1000, 2).font()
		b = append(b, make([]byte, 99)...)
		taken(t, "a font with bytes behind", b, want)
		binary.BigEndian.PutUint32(b[12+16*i+12:], uint32(least-1))
		refused(t, "a table that ends a byte early", b)
	}
}

// Other bytes of the tables don't matter, nor do more of them, nor other tables.
func TestOtherBytes(t *testing.T) {
	r := rand.New(rand.NewSource(3))
	want := face.Face{Glyphs: 300, Em: 1000, Metrics: 200}
	keep := map[string][]int{"maxp": {0, 1, 2, 3, 4, 5}, "head": {12, 13, 14, 15, 18, 19}, "hhea": {34, 35}}
	for range 300 {
		l := hand(300, 1000, 200)
		for tag, data := range l {
			data = append(data, make([]byte, r.Intn(9))...)
			for i := range data {
				if !slices.Contains(keep[tag], i) {
					data[i] = byte(r.Intn(256))
				}
			}
			l[tag] = data
		}
		l["aaaa"], l["hmtx"], l["zzzz"] = []byte{1, 2, 3}, nil, []byte("maxp")
		taken(t, "a font of other bytes", l.font(), want)
	}
}

func TestWhatIsNoFont(t *testing.T) {
	whole := hand(3, 1000, 2).font()
	for n := range len(whole) - 2 { // two noughts stand behind maxp's bytes
		refused(t, "less than all bytes", whole[:n])
	}
	refused(t, "nothing", nil)
	other := bytes.Clone(whole)
	other[0] = 'O'
	refused(t, "another font's first number", other)
	swapped := bytes.Clone(whole)
	copy(swapped[12:28], whole[28:44])
	copy(swapped[28:44], whole[12:28])
	refused(t, "tags that don't rise", swapped)
	word := bytes.Clone(whole)
	copy(word, "true")
	taken(t, "a font of the word true", word, face.Face{Glyphs: 3, Em: 1000, Metrics: 2})
	far := hand(3, 1000, 2)
	far["zzzz"] = []byte{1}
	beside := far.font()
	binary.BigEndian.PutUint32(beside[12+16*3+12:], 1<<31)
	refused(t, "a fourth table beside the bytes", beside)
}

// P1 and P2

func TestNothingIsChangedOrKept(t *testing.T) {
	b := hand(3, 1000, 2).font()
	was := bytes.Clone(b)
	one, _ := face.Read(b)
	if !bytes.Equal(b, was) {
		t.Error("the bytes were changed")
	}
	clear(b)
	refused(t, "noughts", b)
	if one != (face.Face{Glyphs: 3, Em: 1000, Metrics: 2}) {
		t.Error("the answer hangs on the bytes", one)
	}
	taken(t, "a font behind one that was refused", was, one)
}

// No bytes make Read panic, and what it answers is within the bounds.
func TestAnyBytes(t *testing.T) {
	r := rand.New(rand.NewSource(4))
	whole := hand(3, 1000, 2).font()
	fonts := 0
	for range 20000 {
		b := bytes.Clone(whole)
		if r.Intn(4) == 0 {
			b = b[:r.Intn(len(b)+1)]
		}
		for range r.Intn(4) {
			if len(b) > 0 {
				b[r.Intn(len(b))] = byte(r.Intn(256) >> r.Intn(8))
			}
		}
		f, e := face.Read(b)
		bounds := f.Glyphs >= 1 && f.Em >= 16 && f.Em <= 16384 && f.Metrics >= 1 && f.Metrics <= f.Glyphs
		if e != api.OK && (e != api.ErrForm || f != (face.Face{})) || e == api.OK && !bounds {
			t.Fatalf("Read of %x: %+v, %v", b, f, e)
		}
		if e == api.OK {
			fonts++
		}
	}
	if fonts == 0 {
		t.Error("none of them was a font")
	}
}
