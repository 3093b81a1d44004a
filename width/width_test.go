package width_test

import (
	"bytes"
	"encoding/binary"
	"math"
	"math/rand"
	"testing"

	"swash/api"
	"swash/face"
	"swash/sfnt"
	"swash/width"
)

// numbers: each one's two bytes.
func numbers(l ...int) []byte {
	var b []byte
	for _, n := range l {
		b = binary.BigEndian.AppendUint16(b, uint16(n))
	}
	return b
}

// parts: a font's, with an em of 1000, all but hmtx.
func parts(glyphs, metrics int) []sfnt.Part {
	head := make([]byte, 54)
	binary.BigEndian.PutUint32(head[12:], 0x5F0F3CF5)
	binary.BigEndian.PutUint16(head[18:], 1000)
	hhea := append(make([]byte, 34), numbers(metrics)...)
	return []sfnt.Part{{Tag: "maxp", Data: numbers(0, 0x5000, glyphs)}, {Tag: "head", Data: head}, {Tag: "hhea", Data: hhea}}
}

// font: one with these bytes as its hmtx.
func font(glyphs, metrics int, hmtx []byte) []byte {
	return sfnt.Make(append(parts(glyphs, metrics), sfnt.Part{Tag: "hmtx", Data: hmtx})...)
}

func read(t *testing.T, what string, b []byte) *width.Width {
	t.Helper()
	w, e := width.Read(b)
	if e != api.OK || w == nil {
		t.Fatalf("Read of %s: %v", what, e)
	}
	return w
}

func refused(t *testing.T, what string, b []byte) {
	t.Helper()
	if w, e := width.Read(b); e != api.ErrForm || w != nil {
		t.Errorf("Read of %s: %v, %v", what, w, e)
	}
}

// P4.1

func TestFace(t *testing.T) {
	for _, c := range [][2]int{{1, 1}, {3, 2}, {300, 1}, {300, 300}} {
		w := read(t, "a font", font(c[0], c[1], make([]byte, 2*(c[0]+c[1]))))
		if want := (face.Face{Glyphs: c[0], Em: 1000, Metrics: c[1]}); w.Face() != want {
			t.Errorf("Face: %+v, not %+v", w.Face(), want)
		}
	}
}

// Just as many bytes as it takes, one less, and more.
func TestBytesOfHmtx(t *testing.T) {
	for glyphs := 1; glyphs < 9; glyphs++ {
		for metrics := 1; metrics <= glyphs; metrics++ {
			need := 4*metrics + 2*(glyphs-metrics)
			for n := range need + 9 {
				b := font(glyphs, metrics, make([]byte, n))
				if n >= need {
					read(t, "enough bytes of hmtx", b)
				} else {
					refused(t, "few bytes of hmtx", b)
				}
			}
		}
	}
}

// The table's own bytes count, not those that stand behind it in the font.
func TestHmtxEnds(t *testing.T) {
	b := append(font(3, 2, numbers(500, 1, 600, 2, 3)), make([]byte, 99)...)
	read(t, "a font with bytes behind", b)
	binary.BigEndian.PutUint32(b[12+16*2+12:], 9)
	refused(t, "an hmtx that ends a byte early", b)
}

func TestFontsWithoutHmtx(t *testing.T) {
	refused(t, "a font without hmtx", sfnt.Make(parts(1, 1)...))
	refused(t, "a font with an hmtx by another tag", sfnt.Make(append(parts(1, 1), sfnt.Part{Tag: "HMTX", Data: make([]byte, 9)})...))
	refused(t, "a font with an empty hmtx", font(1, 1, nil))
}

func TestWhatLayer3Refuses(t *testing.T) {
	hmtx := make([]byte, 99)
	whole := font(3, 2, hmtx)
	for n := range len(whole) - 2 { // two noughts stand behind maxp's bytes
		refused(t, "less than all bytes", whole[:n])
	}
	refused(t, "nothing", nil)
	refused(t, "a font with hmtx alone", sfnt.Make(sfnt.Part{Tag: "hmtx", Data: hmtx}))
	refused(t, "a font without glyphs", font(0, 0, hmtx))
	refused(t, "a font without metrics", font(3, 0, hmtx))
	refused(t, "more metrics than glyphs", font(3, 4, hmtx))
	for i := range 3 {
		l := append(parts(3, 2), sfnt.Part{Tag: "hmtx", Data: hmtx})
		l[i].Tag = "none"
		refused(t, "a font that lacks a table", sfnt.Make(l...))
	}
}

// Whatever Read of layer 3 says, this one says too.
func TestErrorsAreLayer3s(t *testing.T) {
	r := rand.New(rand.NewSource(5))
	whole := font(3, 2, make([]byte, 10))
	fonts := 0
	for range 20000 {
		b := bytes.Clone(whole)
		for range r.Intn(4) {
			b[r.Intn(len(b))] = byte(r.Intn(256) >> r.Intn(8))
		}
		f, e := face.Read(b)
		w, got := width.Read(b)
		v, ok := sfnt.Find(b, "hmtx")
		if e == api.OK && (!ok || v.Len() < 2*(f.Glyphs+f.Metrics)) {
			e = api.ErrForm
		}
		if got != e || (w == nil) != (e != api.OK) {
			t.Fatalf("Read of %x: %v, not %v", b, got, e)
		}
		if w != nil {
			fonts++
			if w.Face() != f {
				t.Fatalf("Face: %+v, not %+v", w.Face(), f)
			}
			w.Advance(f.Glyphs - 1)
			w.Bearing(f.Glyphs - 1)
		}
	}
	if fonts == 0 {
		t.Error("none of them was a font")
	}
}

func TestNothingIsChangedOrKept(t *testing.T) {
	b := font(3, 2, numbers(500, 1, 600, -2, 3))
	was := bytes.Clone(b)
	one, other := read(t, "a font", b), read(t, "it again", b)
	if !bytes.Equal(b, was) {
		t.Error("the bytes were changed")
	}
	clear(b)
	if one == other {
		t.Error("two answers are the same one")
	}
	for _, w := range []*width.Width{one, other} {
		if w.Face() != (face.Face{Glyphs: 3, Em: 1000, Metrics: 2}) || w.Advance(0) != 500 || w.Advance(2) != 600 || w.Bearing(1) != -2 || w.Bearing(2) != 3 {
			t.Error("the answer hangs on the bytes")
		}
	}
}

// P4.2

// far: numbers of no glyph of a font of so many.
func far(glyphs int) []int {
	return []int{math.MinInt, math.MinInt + 1, -1 << 32, -1 << 16, -2, -1, glyphs, glyphs + 1, 2 * glyphs, 65535 + glyphs, 1<<16 + glyphs, 1 << 32, math.MaxInt - 1, math.MaxInt}
}

func TestExample(t *testing.T) {
	w := read(t, "the document's example", font(3, 2, numbers(500, 0, 600, 0, 0)))
	if w.Advance(0) != 500 || w.Advance(1) != 600 || w.Advance(2) != 600 {
		t.Error("advances", w.Advance(0), w.Advance(1), w.Advance(2))
	}
}

func TestAdvancesAndBearings(t *testing.T) {
	r := rand.New(rand.NewSource(6))
	for _, c := range [][2]int{{1, 1}, {2, 1}, {2, 2}, {7, 1}, {7, 3}, {7, 6}, {7, 7}, {300, 299}, {65535, 1}, {65535, 40000}, {65535, 65535}} {
		glyphs, metrics := c[0], c[1]
		var advances, bearings, rows []int
		for i := range glyphs {
			if i < metrics {
				advances = append(advances, r.Intn(1<<16))
				rows = append(rows, advances[i])
			} else {
				advances = append(advances, advances[metrics-1])
			}
			bearings = append(bearings, r.Intn(1<<16)-1<<15)
			rows = append(rows, bearings[i])
		}
		w := read(t, "a font", font(glyphs, metrics, numbers(append(rows, 7, 7)...)))
		for i := range glyphs {
			if w.Advance(i) != advances[i] || w.Bearing(i) != bearings[i] {
				t.Fatalf("the glyph %d of %d, %d: %d, %d, not %d, %d", i, glyphs, metrics, w.Advance(i), w.Bearing(i), advances[i], bearings[i])
			}
		}
		for _, i := range far(glyphs) {
			if w.Advance(i) != 0 || w.Bearing(i) != 0 {
				t.Errorf("the glyph %d of %d: %d, %d", i, glyphs, w.Advance(i), w.Bearing(i))
			}
		}
	}
}

// Advances are never below nought, bearings may be.
func TestNumbersAtTheEdges(t *testing.T) {
	w := read(t, "a font", font(5, 3, numbers(0x7FFF, 0x7FFF, 0x8000, 0x8000, 0xFFFF, 0xFFFF, 0x8000, 0x7FFF)))
	for i, c := range [][2]int{{32767, 32767}, {32768, -32768}, {65535, -1}, {65535, -32768}, {65535, 32767}} {
		if w.Advance(i) != c[0] || w.Bearing(i) != c[1] {
			t.Errorf("the glyph %d: %d, %d, not %v", i, w.Advance(i), w.Bearing(i), c)
		}
	}
}

// What is asked again, in any order, is answered alike.
func TestAskedAgain(t *testing.T) {
	w := read(t, "a font", font(3, 2, numbers(500, -1, 600, 2, 3)))
	for range 3 {
		for _, i := range []int{2, 0, -1, 1, 3} {
			want := map[int][2]int{0: {500, -1}, 1: {600, 2}, 2: {600, 3}}[i]
			if w.Advance(i) != want[0] || w.Bearing(i) != want[1] {
				t.Errorf("the glyph %d: %d, %d, not %v", i, w.Advance(i), w.Bearing(i), want)
			}
		}
	}
}
