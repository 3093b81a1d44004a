package line_test

import (
	"math"
	"math/rand"
	"slices"
	"testing"

	"swash/api"
	"swash/line"
)

// glyphs: of pairs of an ID and a cluster.
func glyphs(l ...int) []api.Glyph {
	var out []api.Glyph
	for i := 0; i+1 < len(l); i += 2 {
		out = append(out, api.Glyph{ID: l[i], Cluster: l[i+1]})
	}
	return out
}

// is: a line is just these glyphs, whichever call tells it.
func is(t *testing.T, what string, x *line.Line, want []api.Glyph) {
	t.Helper()
	if got := x.Glyphs(); !slices.Equal(got, want) {
		t.Errorf("%s: %v, not %v", what, got, want)
		return
	}
	if x.Len() != len(want) {
		t.Errorf("%s: Len %d, not %d", what, x.Len(), len(want))
	}
	for i := -2; i < len(want)+2; i++ {
		g, ok := x.At(i)
		there := i >= 0 && i < len(want)
		if ok != there || there && g != want[i] || !there && g != (api.Glyph{}) {
			t.Errorf("%s: At(%d): %v, %v", what, i, g, ok)
		}
	}
}

// some: five glyphs, two of one cluster, clusters that don't rise.
func some() []api.Glyph { return glyphs(5, 3, 7, 1, api.Deleted, 1, 9, 8, 5, 2) }

var far = []int{math.MinInt, math.MinInt + 1, -1 << 32, -65536, -2, -1, 1 << 16, 1 << 32, 1<<32 + 1, math.MaxInt - 1, math.MaxInt}

// P11.1

func TestNew(t *testing.T) {
	is(t, "New of none", line.New(), nil)
	is(t, "New of an empty list", line.New([]int{}...), nil)
	is(t, "New of one", line.New(4), glyphs(4, 0))
	is(t, "New of three", line.New(4, 4, 0), glyphs(4, 0, 4, 1, 0, 2))
	is(t, "New of any numbers", line.New(-1, math.MinInt, api.Deleted, 65536, math.MaxInt), glyphs(-1, 0, math.MinInt, 1, api.Deleted, 2, 65536, 3, math.MaxInt, 4))
}

func TestOf(t *testing.T) {
	is(t, "Of nil", line.Of(nil), nil)
	is(t, "Of an empty list", line.Of(glyphs()), nil)
	is(t, "Of some", line.Of(some()), some())
	any := glyphs(-1, -1, math.MinInt, math.MaxInt, math.MaxInt, math.MinInt, 0, 0)
	is(t, "Of any numbers", line.Of(any), any)
}

func TestZero(t *testing.T) {
	var x line.Line
	is(t, "the zero Line", &x, nil)
	x.Turn()
	x.Clean()
	x.Join(0, 0)
	if x.Set(0, 1) || x.Order(0, 0) || !x.Order(0) || x.Insert(1, 7) {
		t.Error("the zero Line has a glyph")
	}
	is(t, "the zero Line behind calls", &x, nil)
	if !x.Insert(0, 7, 8) {
		t.Error("Insert into the zero Line: false")
	}
	is(t, "the zero Line behind Insert", &x, glyphs(7, 0, 8, 0))
}

func TestAt(t *testing.T) {
	x := line.Of(some())
	for _, i := range append(far, 5, 6) {
		if g, ok := x.At(i); ok || g != (api.Glyph{}) {
			t.Errorf("At(%d): %v, %v", i, g, ok)
		}
	}
}

// P11.2

func TestSet(t *testing.T) {
	for i := range 5 {
		for _, id := range append(far, 0, 5, api.Deleted) {
			x, want := line.Of(some()), some()
			want[i].ID = id
			if !x.Set(i, id) {
				t.Errorf("Set(%d, %d): false", i, id)
			}
			is(t, "behind Set", x, want)
		}
	}
	for _, i := range append(far, 5, 6) {
		x := line.Of(some())
		if x.Set(i, 1) {
			t.Errorf("Set(%d, 1): true", i)
		}
		is(t, "behind Set of none", x, some())
	}
}

func TestExample(t *testing.T) {
	x := line.New(5, 7)
	if !x.Insert(2, 9) {
		t.Error("Insert: false")
	}
	is(t, "the document's example", x, glyphs(5, 0, 7, 1, 9, 1))
}

func TestInsert(t *testing.T) {
	for _, c := range []struct {
		what  string
		i     int
		ids   []int
		wants []api.Glyph
	}{
		{"one ahead of all", 0, []int{1}, glyphs(1, 3, 5, 3, 7, 1, 9, 8)},
		{"two ahead of all", 0, []int{1, 2}, glyphs(1, 3, 2, 3, 5, 3, 7, 1, 9, 8)},
		{"one between", 1, []int{4}, glyphs(5, 3, 4, 1, 7, 1, 9, 8)},
		{"three between", 2, []int{3, -2, api.Deleted}, glyphs(5, 3, 7, 1, 3, 8, -2, 8, api.Deleted, 8, 9, 8)},
		{"two behind all", 3, []int{6, 1}, glyphs(5, 3, 7, 1, 9, 8, 6, 8, 1, 8)},
		{"none ahead of all", 0, nil, glyphs(5, 3, 7, 1, 9, 8)},
		{"none between", 2, []int{}, glyphs(5, 3, 7, 1, 9, 8)},
		{"none behind all", 3, nil, glyphs(5, 3, 7, 1, 9, 8)},
	} {
		x := line.Of(glyphs(5, 3, 7, 1, 9, 8))
		if !x.Insert(c.i, c.ids...) {
			t.Errorf("Insert of %s: false", c.what)
		}
		is(t, "Insert of "+c.what, x, c.wants)
	}
	x := line.New()
	if !x.Insert(0, 7, 6) || !x.Insert(2, 5) {
		t.Error("Insert into an empty line: false")
	}
	is(t, "Insert into an empty line", x, glyphs(7, 0, 6, 0, 5, 0))
	x = line.Of(glyphs(5, -3))
	x.Insert(1, 4)
	x.Insert(0, 3)
	is(t, "Insert beside a cluster below nought", x, glyphs(3, -3, 5, -3, 4, -3))
}

func TestInsertNowhere(t *testing.T) {
	for _, i := range append(far, 6, 7) {
		for _, ids := range [][]int{nil, {1}, {1, 2, 3}} {
			x := line.Of(some())
			if x.Insert(i, ids...) {
				t.Errorf("Insert(%d, %v): true", i, ids)
			}
			is(t, "behind Insert nowhere", x, some())
		}
	}
}

func TestOrder(t *testing.T) {
	for _, c := range []struct {
		what  string
		from  int
		order []int
		want  []api.Glyph
	}{
		{"none at the beginning", 0, nil, some()},
		{"none between", 3, []int{}, some()},
		{"none at the end", 5, nil, some()},
		{"one", 1, []int{0}, some()},
		{"the last one", 4, []int{0}, some()},
		{"all as they are", 0, []int{0, 1, 2, 3, 4}, some()},
		{"two", 0, []int{1, 0}, glyphs(7, 1, 5, 3, api.Deleted, 1, 9, 8, 5, 2)},
		{"the last two", 3, []int{1, 0}, glyphs(5, 3, 7, 1, api.Deleted, 1, 5, 2, 9, 8)},
		{"three, a round", 1, []int{1, 2, 0}, glyphs(5, 3, api.Deleted, 1, 9, 8, 7, 1, 5, 2)},
		{"three, the other way round", 1, []int{2, 0, 1}, glyphs(5, 3, 9, 8, 7, 1, api.Deleted, 1, 5, 2)},
		{"all", 0, []int{3, 4, 1, 0, 2}, glyphs(9, 8, 5, 2, 7, 1, 5, 3, api.Deleted, 1)},
	} {
		x := line.Of(some())
		if !x.Order(c.from, c.order...) {
			t.Errorf("Order of %s: false", c.what)
		}
		is(t, "Order of "+c.what, x, c.want)
	}
}

func TestOrderOfNone(t *testing.T) {
	for _, c := range []struct {
		from  int
		order []int
	}{
		{-1, nil}, {6, nil}, {-1, []int{0}}, {-1, []int{1, 0}}, {5, []int{0}}, {6, []int{0}}, {4, []int{1, 0}}, {3, []int{0, 1, 2}}, {0, []int{0, 1, 2, 3, 4, 5}},
		{0, []int{1}}, {0, []int{-1}}, {0, []int{0, 0}}, {0, []int{1, 1}}, {0, []int{1, 2}}, {0, []int{-1, 0}}, {0, []int{0, 2}}, {1, []int{1, 0, 1}}, {1, []int{2, 0, 0}},
		{0, []int{0, 1, 3}}, {1, []int{1, 2, 3}}, {0, []int{0, 1, 2, 3, 5}}, {0, []int{0, 1, 2, 3, 3}}, {0, []int{0, 1, 2, 3, -1}},
		{0, []int{0, math.MaxInt}}, {0, []int{math.MinInt, 0}}, {0, []int{1 << 32, 1}}, {0, []int{1<<32 + 1, 0}},
	} {
		x := line.Of(some())
		if x.Order(c.from, c.order...) {
			t.Errorf("Order(%d, %v): true", c.from, c.order)
		}
		is(t, "behind Order of none", x, some())
	}
	for _, from := range far {
		for _, order := range [][]int{nil, {0}, {1, 0}, {0, 1, 2, 3, 4}} {
			x := line.Of(some())
			if x.Order(from, order...) {
				t.Errorf("Order(%d, %v): true", from, order)
			}
			is(t, "behind Order from nowhere", x, some())
		}
	}
}

// P11.3

func TestJoin(t *testing.T) {
	for _, c := range []struct {
		what    string
		i       int
		with    []int
		cluster int
	}{
		{"none", 3, nil, 8},
		{"one that is less", 3, []int{0}, 3},
		{"one that is more", 1, []int{3}, 1},
		{"several, the least one last", 3, []int{0, 4, 1}, 1},
		{"several, the least one first", 3, []int{2, 0, 4}, 1},
		{"several, its own the least", 2, []int{0, 3, 4}, 1},
		{"itself", 3, []int{3, 3}, 8},
		{"one twice", 3, []int{4, 4}, 2},
		{"places that there aren't", 3, []int{-1, 5, 6, math.MinInt, math.MaxInt, 1<<32 + 1}, 8},
		{"one among places that there aren't", 3, []int{-1, 4, 5}, 2},
	} {
		x, want := line.Of(some()), some()
		want[c.i].Cluster = c.cluster
		x.Join(c.i, c.with...)
		is(t, "Join with "+c.what, x, want)
	}
	x := line.Of(glyphs(5, 0, 6, -4, 7, math.MinInt, 8, math.MaxInt))
	x.Join(0, 1, 3)
	is(t, "Join with a cluster below nought", x, glyphs(5, -4, 6, -4, 7, math.MinInt, 8, math.MaxInt))
	x.Join(3, 2)
	is(t, "Join with the least cluster", x, glyphs(5, -4, 6, -4, 7, math.MinInt, 8, math.MinInt))
	for _, i := range append(far, 5, 6) {
		x := line.Of(some())
		x.Join(i, 0, 1, 2, 3, 4, i)
		is(t, "Join of none", x, some())
	}
}

func TestTurn(t *testing.T) {
	for n := range 7 {
		var l []api.Glyph
		for i := range n {
			l = append(l, api.Glyph{ID: 10 * i, Cluster: n - i*i})
		}
		x := line.Of(l)
		x.Turn()
		turned := slices.Clone(l)
		slices.Reverse(turned)
		is(t, "behind Turn", x, turned)
		x.Turn()
		is(t, "behind two of them", x, l)
	}
}

func TestClean(t *testing.T) {
	const gone = api.Deleted
	for _, c := range []struct{ l, want []api.Glyph }{
		{nil, nil},
		{glyphs(gone, 0), nil},
		{glyphs(gone, 0, gone, 1, gone, 2), nil},
		{glyphs(5, 3), glyphs(5, 3)},
		{glyphs(gone, 0, 5, 1, 6, 7), glyphs(5, 1, 6, 7)},
		{glyphs(5, 1, 6, 7, gone, 0), glyphs(5, 1, 6, 7)},
		{glyphs(5, 1, gone, 0, gone, 0, 6, 7, gone, 0, 7, 2), glyphs(5, 1, 6, 7, 7, 2)},
		{glyphs(9, gone, -1, 0, 0xFFFE, 1, 0x10000, 2, gone-1<<32, 3, 1<<32+gone, 4), glyphs(9, gone, -1, 0, 0xFFFE, 1, 0x10000, 2, gone-1<<32, 3, 1<<32+gone, 4)},
	} {
		x := line.Of(c.l)
		x.Clean()
		is(t, "behind Clean", x, c.want)
		x.Insert(x.Len(), 4)
		x.Turn()
		x.Set(0, gone)
		x.Clean()
		slices.Reverse(c.want)
		is(t, "behind a second Clean", x, c.want)
	}
}

// What is handed in is neither changed nor kept, its spare room too; what is answered is new.
func TestMemory(t *testing.T) {
	room := append(some(), glyphs(70, 70, 71, 71)...)
	l := room[:5]
	ids := []int{5, 7, 9, 88}
	x, y, z := line.Of(l), line.Of(l), line.New(ids[:3]...)
	with := []int{1, 2, 88}
	order := []int{1, 0, 88}
	for _, b := range []*line.Line{x, z} {
		b.Insert(1, ids[:2]...)
		b.Insert(b.Len(), ids[:1]...)
		b.Set(0, 44)
		b.Order(1, order[:2]...)
		b.Join(0, with[:2]...)
		b.Turn()
		b.Clean()
	}
	if !slices.Equal(room, append(some(), glyphs(70, 70, 71, 71)...)) || !slices.Equal(ids, []int{5, 7, 9, 88}) || !slices.Equal(with, []int{1, 2, 88}) || !slices.Equal(order, []int{1, 0, 88}) {
		t.Error("what was handed in was changed", room, ids, with, order)
	}
	is(t, "another line of the same glyphs", y, some())
	room[0], ids[0] = api.Glyph{ID: 99, Cluster: 99}, 99
	is(t, "a line behind a change of what was handed in", y, some())
	is(t, "a line behind changes", z, glyphs(5, 2, 9, 2, 7, 1, 5, 1, 7, 1, 44, 0))

	one, other := y.Glyphs(), y.Glyphs()
	for i := range one {
		one[i] = api.Glyph{ID: 98, Cluster: 98}
	}
	_ = append(one[:1], api.Glyph{ID: 97})
	y.Set(1, 96)
	y.Turn()
	if !slices.Equal(other, some()) {
		t.Error("an answer shares memory", other)
	}
	want := some()
	want[1].ID = 96
	slices.Reverse(want)
	is(t, "a line behind a change of what it answered", y, want)
}

// model: a line, changed word by word as the document says.
type model []api.Glyph

func (m model) insert(i int, ids []int) (model, bool) {
	if i < 0 || i > len(m) {
		return m, false
	}
	cluster := 0
	if i < len(m) {
		cluster = m[i].Cluster
	} else if i > 0 {
		cluster = m[i-1].Cluster
	}
	var out model
	out = append(out, m[:i]...)
	for _, id := range ids {
		out = append(out, api.Glyph{ID: id, Cluster: cluster})
	}
	return append(out, m[i:]...), true
}

func (m model) order(from int, order []int) (model, bool) {
	rising := slices.Clone(order)
	slices.Sort(rising)
	for i, n := range rising {
		if n != i {
			return m, false
		}
	}
	if from < 0 || from+len(order) > len(m) {
		return m, false
	}
	out := slices.Clone(m)
	for i, n := range order {
		out[from+i] = m[from+n]
	}
	return out, true
}

func (m model) join(i int, with []int) model {
	out := slices.Clone(m)
	for _, k := range with {
		if i >= 0 && i < len(m) && k >= 0 && k < len(m) {
			out[i].Cluster = min(out[i].Cluster, m[k].Cluster)
		}
	}
	return out
}

func (m model) clean() model {
	var out model
	for _, g := range m {
		if g.ID != api.Deleted {
			out = append(out, g)
		}
	}
	return out
}

// change: one call, of the line and of the model; whether both say the same.
func change(r *rand.Rand, x *line.Line, m model) (model, bool) {
	i := r.Intn(len(m)+4) - 2
	numbers := r.Perm(r.Intn(4))
	if len(numbers) > 0 && r.Intn(4) == 0 {
		numbers[r.Intn(len(numbers))] = r.Intn(6) - 1
	}
	ok := false
	switch r.Intn(6) {
	case 0:
		there := i >= 0 && i < len(m)
		id := []int{r.Intn(9), api.Deleted}[r.Intn(2)]
		ok = x.Set(i, id)
		if there {
			m = slices.Clone(m)
			m[i].ID = id
		}
		return m, ok == there
	case 1:
		m, want := m.insert(i, numbers)
		return m, x.Insert(i, numbers...) == want
	case 2:
		m, want := m.order(i, numbers)
		return m, x.Order(i, numbers...) == want
	case 3:
		x.Join(i, numbers...)
		return m.join(i, numbers), true
	case 4:
		x.Turn()
		m = slices.Clone(m)
		slices.Reverse(m)
	default:
		x.Clean()
		m = m.clean()
	}
	return m, true
}

func TestAnyChanges(t *testing.T) {
	r := rand.New(rand.NewSource(11))
	for range 2000 {
		var m model
		for range r.Intn(6) {
			m = append(m, api.Glyph{ID: r.Intn(9), Cluster: r.Intn(9) - 2})
		}
		x := line.Of(m)
		for range 30 {
			ok := false
			if m, ok = change(r, x, m); !ok {
				t.Fatal("a call answers otherwise than the model")
			}
			if is(t, "behind any changes", x, m); t.Failed() {
				t.FailNow()
			}
		}
	}
}
