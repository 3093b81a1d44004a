package cover_test

import (
	"math"
	"testing"

	"swash/api"
	"swash/cover"
)

var directions = []int{api.Right, api.Left, api.Down}

var noDirections = []int{-1, -2, 3, 4, 255, 256, 65536, 1 << 32, 1<<32 + 1, 1<<32 + 2, math.MinInt, math.MaxInt}

// P10.1

func TestExample(t *testing.T) {
	m := cover.OfMorx(0x40000002)
	if m != (cover.Morx{Way: cover.Way{Kind: 2, Backwards: true}}) {
		t.Error("OfMorx of the document's example", m)
	}
	if !m.Runs(api.Right) || !m.Runs(api.Left) || m.Runs(api.Down) {
		t.Error("Runs of the document's example")
	}
	if !m.Turned(api.Right) || m.Turned(api.Left) {
		t.Error("Turned of the document's example")
	}
}

func TestBitsOfMorx(t *testing.T) {
	for w, want := range map[uint32]cover.Morx{
		0:          {},
		0x80000000: {Way: cover.Way{Vertical: true}},
		0x40000000: {Way: cover.Way{Backwards: true}},
		0x20000000: {Both: true},
		0x10000000: {Logical: true},
		0xF0000000: {Way: cover.Way{Vertical: true, Backwards: true}, Both: true, Logical: true},
		0x00000001: {Way: cover.Way{Kind: 1}},
		0x00000080: {Way: cover.Way{Kind: 128}},
		0x000000FF: {Way: cover.Way{Kind: 255}},
		0xA0000004: {Way: cover.Way{Kind: 4, Vertical: true}, Both: true},
		0x50000005: {Way: cover.Way{Kind: 5, Backwards: true}, Logical: true},
	} {
		for bit := range 20 { // other bits don't matter
			for _, other := range []uint32{0, 1 << (8 + bit), 0x0FFFFF00, 0x0FFFFF00 ^ 1<<(8+bit)} {
				if got := cover.OfMorx(w | other); got != want {
					t.Errorf("OfMorx of %x: %v, not %v", w|other, got, want)
				}
			}
		}
	}
}

func TestBitsOfKerx(t *testing.T) {
	for w, want := range map[uint32]cover.Kerx{
		0:          {},
		0x80000000: {Way: cover.Way{Vertical: true}},
		0x40000000: {Cross: true},
		0x20000000: {Variation: true},
		0x10000000: {Way: cover.Way{Backwards: true}},
		0xF0000000: {Way: cover.Way{Vertical: true, Backwards: true}, Cross: true, Variation: true},
		0x00000001: {Way: cover.Way{Kind: 1}},
		0x00000080: {Way: cover.Way{Kind: 128}},
		0x000000FF: {Way: cover.Way{Kind: 255}},
		0xA0000004: {Way: cover.Way{Kind: 4, Vertical: true}, Variation: true},
		0x50000006: {Way: cover.Way{Kind: 6, Backwards: true}, Cross: true},
	} {
		for bit := range 20 {
			for _, other := range []uint32{0, 1 << (8 + bit), 0x0FFFFF00, 0x0FFFFF00 ^ 1<<(8+bit)} {
				if got := cover.OfKerx(w | other); got != want {
					t.Errorf("OfKerx of %x: %v, not %v", w|other, got, want)
				}
			}
		}
	}
}

func TestKinds(t *testing.T) {
	for kind := range 256 {
		for high := range 16 {
			w := uint32(high<<28 | kind)
			if m, k := cover.OfMorx(w), cover.OfKerx(w); m.Kind != kind || k.Kind != kind {
				t.Errorf("the kind of %x: %d, %d", w, m.Kind, k.Kind)
			}
		}
	}
}

// P10.2

func TestIs(t *testing.T) {
	for _, d := range directions {
		if !cover.Is(d) {
			t.Errorf("Is of %d: false", d)
		}
	}
	for _, d := range noDirections {
		if cover.Is(d) {
			t.Errorf("Is of %d: true", d)
		}
	}
}

func TestFits(t *testing.T) {
	for _, kind := range []int{0, 6, 255} {
		for _, backwards := range []bool{false, true} {
			lying := cover.Way{Kind: kind, Backwards: backwards}
			if !lying.Fits(api.Right) || !lying.Fits(api.Left) || lying.Fits(api.Down) {
				t.Error("Fits of one that isn't vertical", lying)
			}
			upright := cover.Way{Kind: kind, Vertical: true, Backwards: backwards}
			if upright.Fits(api.Right) || upright.Fits(api.Left) || !upright.Fits(api.Down) {
				t.Error("Fits of one that is vertical", upright)
			}
			for _, d := range noDirections {
				if lying.Fits(d) || upright.Fits(d) {
					t.Errorf("Fits for %d", d)
				}
			}
		}
	}
	if m, k := cover.OfMorx(0x80000000), cover.OfKerx(0x80000000); !m.Fits(api.Down) || !k.Fits(api.Down) || m.Fits(api.Right) || k.Fits(api.Right) {
		t.Error("Fits of what has a Way")
	}
}

// Each row: a word's first four bits, then whether it runs for Right, Left and Down.
func TestRunsOfMorx(t *testing.T) {
	want := [16][3]bool{}
	for high := range want {
		switch {
		case high&2 != 0: // Both
			want[high] = [3]bool{true, true, true}
		case high&8 != 0: // Vertical
			want[high] = [3]bool{false, false, true}
		default:
			want[high] = [3]bool{true, true, false}
		}
	}
	for high, row := range want {
		m := cover.OfMorx(uint32(high) << 28)
		for _, d := range directions {
			if m.Runs(d) != row[d] {
				t.Errorf("Morx %x: Runs(%d): %v", high, d, !row[d])
			}
		}
		for _, d := range noDirections {
			if m.Runs(d) {
				t.Errorf("Morx %x: Runs(%d): true", high, d)
			}
		}
	}
}

func TestRunsOfKerx(t *testing.T) {
	want := [16][3]bool{}
	for high := range want {
		switch {
		case high&2 != 0: // Variation
		case high&8 != 0: // Vertical
			want[high] = [3]bool{false, false, true}
		default:
			want[high] = [3]bool{true, true, false}
		}
	}
	for high, row := range want {
		k := cover.OfKerx(uint32(high) << 28)
		for _, d := range directions {
			if k.Runs(d) != row[d] {
				t.Errorf("Kerx %x: Runs(%d): %v", high, d, !row[d])
			}
		}
		for _, d := range noDirections {
			if k.Runs(d) {
				t.Errorf("Kerx %x: Runs(%d): true", high, d)
			}
		}
	}
}

// P10.3

// turned: for Right, Left and Down, by Backwards, where the direction counts.
var turned = map[bool][3]bool{false: {false, true, false}, true: {true, false, true}}

func TestTurnedOfMorx(t *testing.T) {
	for high := range 16 {
		backwards := high&4 != 0
		row := turned[backwards]
		if high&1 != 0 { // Logical
			row = [3]bool{backwards, backwards, backwards}
		}
		m := cover.OfMorx(uint32(high) << 28)
		for _, d := range directions {
			if m.Turned(d) != row[d] {
				t.Errorf("Morx %x: Turned(%d): %v", high, d, !row[d])
			}
		}
		for _, d := range noDirections {
			if m.Turned(d) != row[api.Right] {
				t.Errorf("Morx %x: Turned(%d) isn't as for Right", high, d)
			}
		}
	}
}

func TestTurnedOfKerx(t *testing.T) {
	for high := range 16 {
		row := turned[high&1 != 0] // Backwards
		k := cover.OfKerx(uint32(high) << 28)
		for _, d := range directions {
			if k.Turned(d) != row[d] {
				t.Errorf("Kerx %x: Turned(%d): %v", high, d, !row[d])
			}
		}
		for _, d := range noDirections {
			if k.Turned(d) != row[api.Right] {
				t.Errorf("Kerx %x: Turned(%d) isn't as for Right", high, d)
			}
		}
	}
}
