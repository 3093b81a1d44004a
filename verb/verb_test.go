package verb_test

import (
	"math"
	"slices"
	"testing"

	"swash/verb"
)

// letters: how many of a row's glyphs a verb needs.
var letters = [16]int{0, 1, 1, 2, 2, 2, 2, 2, 3, 3, 3, 3, 4, 4, 4, 4}

// P13.1

func TestConstants(t *testing.T) {
	if verb.Verbs != 16 {
		t.Error("Verbs", verb.Verbs)
	}
}

// In rows of as few glyphs as there may be between, and of some.
func TestEachVerb(t *testing.T) {
	for _, c := range []struct {
		verb int
		want []int
	}{
		{1, []int{0}},
		{1, []int{1, 0}},
		{1, []int{1, 2, 3, 4, 5, 0}},
		{2, []int{0}},
		{2, []int{1, 0}},
		{2, []int{5, 0, 1, 2, 3, 4}},
		{3, []int{1, 0}},
		{3, []int{2, 1, 0}},
		{3, []int{3, 1, 2, 0}}, // the document's example
		{3, []int{5, 1, 2, 3, 4, 0}},
		{4, []int{0, 1}},
		{4, []int{2, 0, 1}},
		{4, []int{2, 3, 4, 5, 0, 1}},
		{5, []int{1, 0}},
		{5, []int{2, 1, 0}},
		{5, []int{2, 3, 4, 5, 1, 0}},
		{6, []int{0, 1}},
		{6, []int{1, 2, 0}},
		{6, []int{4, 5, 0, 1, 2, 3}},
		{7, []int{1, 0}},
		{7, []int{2, 1, 0}},
		{7, []int{5, 4, 0, 1, 2, 3}},
		{8, []int{1, 2, 0}},
		{8, []int{2, 3, 1, 0}},
		{8, []int{4, 5, 1, 2, 3, 0}},
		{9, []int{2, 1, 0}},
		{9, []int{3, 2, 1, 0}},
		{9, []int{5, 4, 1, 2, 3, 0}},
		{10, []int{2, 0, 1}},
		{10, []int{3, 2, 0, 1}},
		{10, []int{5, 2, 3, 4, 0, 1}},
		{11, []int{2, 1, 0}},
		{11, []int{3, 2, 1, 0}},
		{11, []int{5, 2, 3, 4, 1, 0}},
		{12, []int{2, 3, 0, 1}},
		{12, []int{3, 4, 2, 0, 1}},
		{12, []int{4, 5, 2, 3, 0, 1}},
		{13, []int{2, 3, 1, 0}},
		{13, []int{3, 4, 2, 1, 0}},
		{13, []int{4, 5, 2, 3, 1, 0}},
		{14, []int{3, 2, 0, 1}},
		{14, []int{4, 3, 2, 0, 1}},
		{14, []int{5, 4, 2, 3, 0, 1}},
		{15, []int{3, 2, 1, 0}},
		{15, []int{4, 3, 2, 1, 0}},
		{15, []int{5, 4, 2, 3, 1, 0}},
	} {
		if got, ok := verb.Order(c.verb, len(c.want)); !ok || !slices.Equal(got, c.want) {
			t.Errorf("Order(%d, %d): %v, %v, not %v", c.verb, len(c.want), got, ok, c.want)
		}
	}
}

// model: a row, letter by letter, of which the ends change places; each end may turn, too.
func model(v, n int) []int {
	row := make([]int, n)
	for i := range row {
		row[i] = i
	}
	begins := [16]int{0, 1, 0, 1, 2, 2, 0, 0, 1, 1, 2, 2, 2, 2, 2, 2}[v]
	ends := letters[v] - begins
	ahead, between, behind := row[:begins:begins], row[begins:n-ends], row[n-ends:]
	if slices.Contains([]int{5, 11, 13, 15}, v) {
		slices.Reverse(ahead)
	}
	if slices.Contains([]int{7, 9, 14, 15}, v) {
		slices.Reverse(behind)
	}
	return slices.Concat(behind, between, ahead)
}

func TestRows(t *testing.T) {
	for v := 1; v < verb.Verbs; v++ {
		for _, n := range []int{0, 1, 2, 3, 4, 5, 6, 7, 8, 9, 15, 16, 17, 63, 64, 65, 255, 256, 65535, 65536, 100000} {
			got, ok := verb.Order(v, n)
			if n < letters[v] {
				if ok || len(got) != 0 {
					t.Errorf("Order(%d, %d): %v, %v", v, n, got, ok)
				}
				continue
			}
			if want := model(v, n); !ok || !slices.Equal(got, want) {
				t.Errorf("Order(%d, %d): %v, %v, not %v", v, n, got[:min(9, len(got))], ok, want[:min(9, len(want))])
			}
		}
	}
}

// A glyph less than there must be, none, and fewer than none.
func TestTooFewGlyphs(t *testing.T) {
	for v := 1; v < verb.Verbs; v++ {
		for _, n := range []int{letters[v] - 1, 0, -1, -2, -3, -4, -5, -65536, -1 << 31, -1 << 32, math.MinInt + 1, math.MinInt} {
			if got, ok := verb.Order(v, n); ok || len(got) != 0 {
				t.Errorf("Order(%d, %d): %v, %v", v, n, got, ok)
			}
		}
		if got, ok := verb.Order(v, letters[v]); !ok || len(got) != letters[v] {
			t.Errorf("Order(%d, %d): %v, %v", v, letters[v], got, ok)
		}
	}
}

func TestNoVerb(t *testing.T) {
	for _, v := range []int{0, 16, 17, 31, 0x8001, 0xFFFF, 65537, 1<<32 + 1, math.MaxInt, -1, -15, -16, math.MinInt, math.MinInt + 3} {
		for _, n := range []int{math.MinInt, -1, 0, 1, 2, 4, 9, 65536, math.MaxInt} {
			if got, ok := verb.Order(v, n); ok || len(got) != 0 {
				t.Errorf("Order(%d, %d): %v, %v", v, n, got, ok)
			}
		}
	}
}

// Of more glyphs than an answer could tell of nothing is promised, but that the call ends (P1).
func TestTooManyGlyphs(t *testing.T) {
	for v := range verb.Verbs {
		for _, n := range []int{1 << 40, 1 << 62, math.MaxInt - 1, math.MaxInt} {
			verb.Order(v, n)
		}
	}
}

// P2

func TestAnswersAreNewMemory(t *testing.T) {
	for v := 1; v < verb.Verbs; v++ {
		for _, n := range []int{4, 7} {
			one, _ := verb.Order(v, n)
			other, _ := verb.Order(v, n)
			clear(one)
			_ = append(one, 9)
			again, _ := verb.Order(v, n)
			if want := model(v, n); !slices.Equal(other, want) || !slices.Equal(again, want) {
				t.Errorf("Order(%d, %d): two answers share memory", v, n)
			}
		}
	}
}
