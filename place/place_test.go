package place_test

import (
	"math"
	"math/big"
	"math/rand"
	"slices"
	"testing"

	"swash/api"
	"swash/place"
)

const (
	low  = math.MinInt32
	high = math.MaxInt32
)

// edges: numbers within 32 bits, about their bounds, and far beyond.
var edges = []int{
	math.MinInt, math.MinInt + 1, -1 << 62, -1 << 33, -1<<32 - 1, -1 << 32, -1<<32 + 1, low - 2, low - 1, low, low + 1, -65536, -2, -1,
	0, 1, 2, 65535, high - 1, high, high + 1, high + 2, 1<<32 - 1, 1 << 32, 1<<32 + 1, 1 << 33, 1 << 62, math.MaxInt - 1, math.MaxInt,
}

// nowhere: places that five places don't have.
var nowhere = []int{math.MinInt, math.MinInt + 1, -1 << 32, -65536, -2, -1, 5, 6, 65536, 1 << 32, 1<<32 + 1, math.MaxInt - 1, math.MaxInt}

// directions: those that there are, and others, of which none goes down.
var directions = []int{api.Right, api.Left, api.Down, -1, 3, 4, 1<<32 + 2, 258, math.MinInt, math.MaxInt}

// is: just these places, whichever call tells them.
func is(t *testing.T, what string, p *place.Places, want []api.Place) {
	t.Helper()
	if got := p.All(); !slices.Equal(got, want) {
		t.Errorf("%s: %v, not %v", what, got, want)
	}
	if p.Len() != len(want) {
		t.Errorf("%s: Len %d, not %d", what, p.Len(), len(want))
	}
}

// some: five places, no two alike, that stand off, too.
func some(direction int) (*place.Places, []api.Place) {
	p := place.New(direction, 500, -20, 0, high, low)
	var want []api.Place
	for i, n := range []int32{500, -20, 0, high, low} {
		p.Shift(i, 10+i, -30-i)
		want = append(want, api.Place{Advance: n, X: int32(10 + i), Y: int32(-30 - i)})
	}
	return p, want
}

// clamped, sum: as the document says, by numbers that don't go round.
func clamped(n *big.Int) int32 {
	switch {
	case n.Cmp(big.NewInt(low)) < 0:
		return low
	case n.Cmp(big.NewInt(high)) > 0:
		return high
	}
	return int32(n.Int64())
}

func sum(a int32, n int) int32 {
	both := big.NewInt(int64(a))
	return clamped(both.Add(both, big.NewInt(int64(clamped(big.NewInt(int64(n)))))))
}

// P21.1

func TestExample(t *testing.T) {
	if n := place.Add(1<<31-1, 1); n != 1<<31-1 {
		t.Error("the document's example:", n)
	}
}

func TestClamp(t *testing.T) {
	for n, want := range map[int]int32{
		0: 0, 1: 1, -1: -1, 70000: 70000, -70000: -70000, high: high, low: low, high - 1: high - 1, low + 1: low + 1,
		high + 1: high, low - 1: low, 1 << 32: high, -1 << 32: low, 1<<32 + 5: high, -1<<32 - 5: low, 1<<33 - 1: high, math.MaxInt: high, math.MinInt: low,
	} {
		if got := place.Clamp(n); got != want {
			t.Errorf("Clamp(%d): %d, not %d", n, got, want)
		}
	}
	for _, n := range edges {
		if got, want := place.Clamp(n), clamped(big.NewInt(int64(n))); got != want {
			t.Errorf("Clamp(%d): %d, not %d", n, got, want)
		}
	}
}

func TestAdd(t *testing.T) {
	for _, c := range []struct {
		a    int32
		n    int
		want int32
	}{
		{0, 0, 0}, {3, 4, 7}, {3, -4, -1}, {-3, 4, 1}, {high, -high, 0}, {low, high, -1}, {high, low, -1},
		{high, 1, high}, {high - 1, 1, high}, {high - 1, 2, high}, {low, -1, low}, {low + 1, -1, low}, {low + 1, -2, low}, {high, high, high}, {low, low, low},
		// what is added is Clamped ahead of that
		{low, 1 << 32, -1}, {low, math.MaxInt, -1}, {high, -1 << 32, -1}, {high, math.MinInt, -1}, {-5, high + 5, high - 5}, {5, low - 5, low + 5},
		{1, math.MaxInt, high}, {-1, math.MinInt, low}, {0, math.MaxInt, high}, {0, math.MinInt, low},
	} {
		if got := place.Add(c.a, c.n); got != c.want {
			t.Errorf("Add(%d, %d): %d, not %d", c.a, c.n, got, c.want)
		}
	}
	for _, a := range []int32{low, low + 1, -70000, -1, 0, 1, 70000, high - 1, high} {
		for _, n := range edges {
			if got, want := place.Add(a, n), sum(a, n); got != want {
				t.Errorf("Add(%d, %d): %d, not %d", a, n, got, want)
			}
		}
	}
}

// P21.2

func TestNew(t *testing.T) {
	for _, d := range directions {
		is(t, "New of none", place.New(d), nil)
		is(t, "New of an empty list", place.New(d, []int{}...), nil)
		is(t, "New of one", place.New(d, 600), []api.Place{{Advance: 600}})
		is(t, "New of three", place.New(d, 600, 0, -7), []api.Place{{Advance: 600}, {}, {Advance: -7}})
		var want []api.Place
		for _, n := range edges {
			want = append(want, api.Place{Advance: clamped(big.NewInt(int64(n)))})
		}
		is(t, "New of any numbers", place.New(d, edges...), want)
	}
}

func TestAlong(t *testing.T) {
	for _, d := range directions {
		for i := range 5 {
			for _, n := range edges {
				p, want := some(d)
				want[i].Advance = sum(want[i].Advance, n)
				p.Along(i, n)
				is(t, "behind Along", p, want)
			}
		}
	}
	p := place.New(api.Right, 500)
	p.Along(0, -20)
	p.Along(0, 30)
	is(t, "behind two of them", p, []api.Place{{Advance: 510}})
	p.Along(0, math.MaxInt)
	p.Along(0, -10)
	is(t, "behind one that was too great", p, []api.Place{{Advance: high - 10}})
}

func TestAcross(t *testing.T) {
	for _, d := range directions {
		for i := range 5 {
			for _, n := range edges {
				p, want := some(d)
				if d == api.Down {
					want[i].X = sum(want[i].X, n)
				} else {
					want[i].Y = sum(want[i].Y, n)
				}
				p.Across(i, n)
				is(t, "behind Across", p, want)
			}
		}
	}
	p := place.New(api.Down, 500)
	p.Across(0, 1<<40)
	p.Across(0, -1)
	is(t, "behind two of them, down", p, []api.Place{{Advance: 500, X: high - 1}})
	p = place.New(api.Left, 500)
	p.Across(0, 4)
	p.Across(0, -9)
	is(t, "behind two of them, to the left", p, []api.Place{{Advance: 500, Y: -5}})
}

func TestLevel(t *testing.T) {
	for _, d := range directions {
		for i := range 5 {
			p, want := some(d)
			if d == api.Down {
				want[i].X = 0
			} else {
				want[i].Y = 0
			}
			for range 2 {
				p.Level(i)
				is(t, "behind Level", p, want)
			}
		}
	}
}

func TestShift(t *testing.T) {
	for _, d := range directions {
		for i := range 5 {
			for k, x := range edges {
				y := edges[(7*k+i)%len(edges)]
				p, want := some(d)
				want[i].X, want[i].Y = sum(want[i].X, x), sum(want[i].Y, y)
				p.Shift(i, x, y)
				is(t, "behind Shift", p, want)
			}
		}
	}
	p := place.New(api.Down, 500)
	p.Shift(0, 6, 50)
	p.Shift(0, -7, 1)
	is(t, "behind two of them", p, []api.Place{{Advance: 500, X: -1, Y: 51}})
}

func TestNowhere(t *testing.T) {
	for _, d := range directions {
		for _, i := range nowhere {
			p, want := some(d)
			none := place.New(d)
			for _, x := range []*place.Places{p, none} {
				x.Along(i, 1)
				x.Across(i, 2)
				x.Level(i)
				x.Shift(i, 3, 4)
			}
			is(t, "behind calls of no place", p, want)
			is(t, "no places behind calls", none, nil)
		}
	}
	none := place.New(api.Right)
	none.Along(0, 1)
	none.Across(0, 1)
	none.Level(0)
	none.Shift(0, 1, 1)
	none.Turn()
	is(t, "no places", none, nil)
}

func TestTurn(t *testing.T) {
	for _, d := range []int{api.Right, api.Left, api.Down} {
		for n := range 7 {
			p := place.New(d, make([]int, n)...)
			var want []api.Place
			for i := range n {
				p.Along(i, 100*i)
				p.Shift(i, i*i, -i)
				want = append(want, api.Place{Advance: int32(100 * i), X: int32(i * i), Y: int32(-i)})
			}
			turned := slices.Clone(want)
			slices.Reverse(turned)
			p.Turn()
			is(t, "behind Turn", p, turned)
			p.Turn()
			is(t, "behind two of them", p, want)
		}
	}
	p := place.New(api.Down, 1, 2)
	p.Turn()
	p.Across(0, 9)
	is(t, "across a line that was turned", p, []api.Place{{Advance: 2, X: 9}, {Advance: 1}})
}

// P2: what is handed in is neither changed nor kept, its spare room too; what is answered is new.
func TestMemory(t *testing.T) {
	room := []int{500, 1 << 40, 700, 88, 89}
	p, q := place.New(api.Right, room[:3]...), place.New(api.Right, room[:3]...)
	p.Along(0, 1)
	p.Across(1, 2)
	p.Level(1)
	p.Shift(2, 3, 4)
	p.Turn()
	if !slices.Equal(room, []int{500, 1 << 40, 700, 88, 89}) {
		t.Error("what was handed in was changed", room)
	}
	room[0], room[2] = 99, 98
	want := []api.Place{{Advance: 500}, {Advance: high}, {Advance: 700}}
	is(t, "others of the same advances", q, want)

	one, other := q.All(), q.All()
	for i := range one {
		one[i] = api.Place{Advance: 1, X: 2, Y: 3}
	}
	_ = append(one[:1], api.Place{Advance: 97})
	is(t, "places behind a change of what they answered", q, want)
	q.Along(1, -1)
	q.Turn()
	if !slices.Equal(other, want) {
		t.Error("an answer shares memory", other)
	}
}

// change: one call, of the places, and of a model of them.
func change(r *rand.Rand, p *place.Places, m []api.Place, down bool) {
	number := func() int { return []int{r.Intn(2000) - 1000, edges[r.Intn(len(edges))]}[r.Intn(2)] }
	i, x, y := r.Intn(len(m)+4)-2, number(), number()
	at := &api.Place{} // of a place that there isn't nothing is seen
	if i >= 0 && i < len(m) {
		at = &m[i]
	}
	off := &at.Y
	if down {
		off = &at.X
	}
	switch r.Intn(5) {
	case 0:
		p.Along(i, x)
		at.Advance = sum(at.Advance, x)
	case 1:
		p.Across(i, x)
		*off = sum(*off, x)
	case 2:
		p.Level(i)
		*off = 0
	case 3:
		p.Shift(i, x, y)
		at.X, at.Y = sum(at.X, x), sum(at.Y, y)
	default:
		p.Turn()
		slices.Reverse(m)
	}
}

func TestAnyChanges(t *testing.T) {
	r := rand.New(rand.NewSource(21))
	for range 2000 {
		d := directions[r.Intn(len(directions))]
		var advances []int
		var m []api.Place
		for range r.Intn(6) {
			n := edges[r.Intn(len(edges))]
			advances, m = append(advances, n), append(m, api.Place{Advance: clamped(big.NewInt(int64(n)))})
		}
		p := place.New(d, advances...)
		for range 30 {
			change(r, p, m, d == api.Down)
			if is(t, "behind any changes", p, m); t.Failed() {
				t.FailNow()
			}
		}
	}
}
