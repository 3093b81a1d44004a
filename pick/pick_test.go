package pick_test

import (
	"math"
	"math/rand"
	"slices"
	"testing"

	"swash/api"
	"swash/feat"
	"swash/pick"
)

// set: settings of pairs of numbers.
func set(l ...int) []api.Setting {
	var out []api.Setting
	for i := 0; i+1 < len(l); i += 2 {
		out = append(out, api.Setting{Type: l[i], Value: l[i+1]})
	}
	return out
}

// features: the types 1, 5 and 65535 are exclusive, 2 and 6 are not, of others nothing is told.
func features() []feat.Feature {
	return []feat.Feature{
		{Type: 1, Exclusive: true, Default: 3, Settings: []int{3, 4}},
		{Type: 2, Default: -1, Settings: []int{0, 2}},
		{Type: 5, Exclusive: true, Default: -1},
		{Type: 6, Default: -1},
		{Type: 65535, Exclusive: true, Default: -1},
	}
}

func settled(t *testing.T, what string, asked, want []api.Setting) {
	t.Helper()
	if got := pick.Settle(asked, features()); !slices.Equal(got, want) {
		t.Errorf("Settle of %s, %v: %v, not %v", what, asked, got, want)
	}
}

// P9.1

func TestRight(t *testing.T) {
	fine := []int{0, 1, 2, 255, 256, 0x7FFF, 0x8000, 65534, 65535}
	wrong := []int{-1, -2, -65535, -65536, 65536, 65537, 131072, 1 << 32, 1<<32 + 1, 1 << 48, math.MinInt, math.MaxInt, math.MinInt + 1}
	for _, a := range fine {
		for _, b := range fine {
			if !pick.Right(api.Setting{Type: a, Value: b}) {
				t.Errorf("Right of %d, %d: false", a, b)
			}
		}
		for _, b := range wrong {
			if pick.Right(api.Setting{Type: a, Value: b}) || pick.Right(api.Setting{Type: b, Value: a}) {
				t.Errorf("Right of %d, %d, or turned: true", a, b)
			}
		}
	}
	for _, a := range wrong {
		if pick.Right(api.Setting{Type: a, Value: a}) {
			t.Errorf("Right of %d, %d: true", a, a)
		}
	}
}

func TestExample(t *testing.T) {
	want := set(1, 3)
	if got := pick.Settle(set(1, 2, 1, 3), nil); !slices.Equal(got, want) {
		t.Error("Settle of the document's example", got)
	}
	if !pick.On(want, want[0]) || pick.On(want, api.Setting{Type: 1, Value: 2}) {
		t.Error("On of the document's example")
	}
}

func TestNone(t *testing.T) {
	settled(t, "none", nil, nil)
	settled(t, "an empty list", set(), nil)
	if got := pick.Settle(nil, nil); len(got) > 0 {
		t.Error("Settle of nothing at all", got)
	}
}

// Of a type that isn't exclusive a setting stands for its own pair alone: an even number, and the odd one behind it.
func TestPairs(t *testing.T) {
	for _, kind := range []int{0, 2, 3, 6, 65534} {
		settled(t, "an even one, then its odd one", set(kind, 2, kind, 3), set(kind, 3))
		settled(t, "an odd one, then its even one", set(kind, 3, kind, 2), set(kind, 2))
		settled(t, "an odd one, then the next even one", set(kind, 1, kind, 2), set(kind, 1, kind, 2))
		settled(t, "an even one, then the odd one ahead", set(kind, 2, kind, 1), set(kind, 1, kind, 2))
		settled(t, "both of the first pair", set(kind, 1, kind, 0), set(kind, 0))
		settled(t, "both of the last pair", set(kind, 65534, kind, 65535), set(kind, 65535))
		settled(t, "one thrice", set(kind, 7, kind, 7, kind, 7), set(kind, 7))
		settled(t, "there and back again", set(kind, 6, kind, 7, kind, 6), set(kind, 6))
		settled(t, "pairs among one another", set(kind, 9, kind, 4, kind, 8, kind, 5, kind, 9), set(kind, 5, kind, 9))
		settled(t, "numbers that are far apart", set(kind, 40000, kind, 7232), set(kind, 7232, kind, 40000))
	}
	settled(t, "one of each of two types", set(3, 2, 2, 3), set(2, 3, 3, 2))
}

// Of one that is exclusive the last one of all is on.
func TestExclusive(t *testing.T) {
	for _, kind := range []int{1, 5, 65535} {
		settled(t, "one", set(kind, 3), set(kind, 3))
		settled(t, "two, rising", set(kind, 3, kind, 40), set(kind, 40))
		settled(t, "two, falling", set(kind, 40, kind, 3), set(kind, 3))
		settled(t, "the first one once more", set(kind, 0, kind, 65535, kind, 0), set(kind, 0))
		settled(t, "many", set(kind, 9, kind, 8, kind, 1, kind, 12, kind, 4), set(kind, 4))
	}
	settled(t, "two exclusive types", set(1, 3, 5, 4, 1, 9, 5, 0), set(1, 9, 5, 0))
	settled(t, "an exclusive one, and one that isn't", set(2, 8, 1, 8, 2, 4, 1, 4), set(1, 4, 2, 4, 2, 8))
	// whether it is says the feature of that type, no other
	one := []feat.Feature{{Type: 3, Default: -1}, {Type: 7, Exclusive: true, Default: -1}}
	for kind, want := range map[int][]api.Setting{3: set(3, 2, 3, 4), 7: set(7, 2), 4: set(4, 2, 4, 4)} {
		if got := pick.Settle(set(kind, 4, kind, 2), one); !slices.Equal(got, want) {
			t.Errorf("Settle of the type %d: %v, not %v", kind, got, want)
		}
	}
}

// Settings that may not be aren't on, and stand for none.
func TestWrongSettings(t *testing.T) {
	for _, n := range []int{-1, -2, 65536, 65537, 1 << 32, 1<<32 + 2, math.MinInt, math.MaxInt} {
		settled(t, "a wrong value", set(2, n), nil)
		settled(t, "a wrong type", set(n, 2), nil)
		settled(t, "a wrong value of an exclusive type", set(1, n), nil)
		settled(t, "a right one, then a wrong value", set(2, 3, 2, n, 1, 3, 1, n), set(1, 3, 2, 3))
		settled(t, "a wrong value, then a right one", set(2, n, 2, 0, 1, n, 1, 0), set(1, 0, 2, 0))
		settled(t, "a wrong type among right ones", set(0, 1, n, 1, 65535, 1), set(0, 1, 65535, 1))
	}
	settled(t, "-1 and 0, whose halves are one", set(2, 0, 2, -1), set(2, 0))
	settled(t, "65536 of an exclusive type", set(65535, 7, 65535, 65536), set(65535, 7))
	settled(t, "a type that is 1 but for higher bits", set(1, 7, 65537, 8), set(1, 7))
	if got := pick.Settle(set(-1, 2, 2, 2), []feat.Feature{{Type: -1, Exclusive: true}, {Type: 2, Exclusive: true}}); !slices.Equal(got, set(2, 2)) {
		t.Error("Settle with a feature of a wrong type", got)
	}
}

func TestOrder(t *testing.T) {
	settled(t, "types that fall", set(9, 0, 8, 0, 7, 0, 300, 0, 256, 0), set(7, 0, 8, 0, 9, 0, 256, 0, 300, 0))
	settled(t, "values that fall", set(2, 300, 2, 256, 2, 10, 2, 9, 2, 0), set(2, 0, 2, 9, 2, 10, 2, 256, 2, 300))
	settled(t, "both", set(3, 1, 2, 65535, 3, 0, 2, 8, 0, 65535, 65534, 0), set(0, 65535, 2, 8, 2, 65535, 3, 0, 65534, 0))
	var asked, want []api.Setting
	for i := range 3000 {
		asked = append(asked, api.Setting{Type: i * 7919 % 3000, Value: i % 2})
		want = append(want, api.Setting{Type: i})
	}
	for _, s := range asked {
		want[s.Type].Value = s.Value
	}
	if got := pick.Settle(asked, nil); !slices.Equal(got, want) {
		t.Error("Settle of many types")
	}
}

// model: the settings that are on, word by word as the document says.
func model(l []api.Setting, features []feat.Feature) []api.Setting {
	stands := func(later, s api.Setting) bool {
		return later.Type == s.Type && (feat.Exclusive(features, s.Type) || later.Value>>1 == s.Value>>1)
	}
	var out []api.Setting
	for i, s := range l {
		on := pick.Right(s)
		for _, later := range l[i+1:] {
			if pick.Right(later) && stands(later, s) {
				on = false
			}
		}
		if on {
			out = append(out, s)
		}
	}
	slices.SortFunc(out, func(a, b api.Setting) int { return a.Type<<16 + a.Value - b.Type<<16 - b.Value })
	return out
}

func TestAnySettings(t *testing.T) {
	r := rand.New(rand.NewSource(9))
	for range 20000 {
		asked := make([]api.Setting, r.Intn(12))
		for i := range asked {
			asked[i] = api.Setting{Type: r.Intn(9) - 1, Value: r.Intn(9) - 1}
			if r.Intn(8) == 0 {
				asked[i].Type = 65530 + r.Intn(8)
			}
			if r.Intn(8) == 0 {
				asked[i].Value = 65530 + r.Intn(8)
			}
		}
		was := slices.Clone(asked)
		settled(t, "any settings", asked, model(asked, features()))
		if !slices.Equal(asked, was) {
			t.Fatal("the list was changed", was, asked)
		}
	}
}

// What is handed in isn't changed, what is answered is new.
func TestMemory(t *testing.T) {
	asked := set(5, 4, 2, 9, 2, 8, 1, 1, -1, 0, 7, 7)
	l := features()
	got := pick.Settle(asked[:5], l)
	other := pick.Settle(asked[:5], l)
	if !slices.Equal(asked, set(5, 4, 2, 9, 2, 8, 1, 1, -1, 0, 7, 7)) {
		t.Error("the list was changed", asked)
	}
	for i, f := range features() {
		if l[i].Type != f.Type || l[i].Exclusive != f.Exclusive || l[i].Default != f.Default || !slices.Equal(l[i].Settings, f.Settings) {
			t.Error("the features were changed", l)
		}
	}
	for i := range got {
		got[i] = api.Setting{Type: 99, Value: 99}
	}
	if !slices.Equal(other, set(1, 1, 2, 8, 5, 4)) || asked[0].Type != 5 {
		t.Error("an answer shares memory", other, asked)
	}
}

// Long lists of both kinds are settled within a moment.
func TestLongLists(t *testing.T) {
	l := make([]feat.Feature, 65536)
	asked := make([]api.Setting, 0, 4*len(l))
	for i := range l {
		l[i] = feat.Feature{Type: i, Exclusive: i%2 == 1, Default: -1}
		asked = append(asked, set(65535-i, 9, 65535-i, 4, 65535-i, 8, 65535-i, 0)...)
	}
	got := pick.Settle(asked, l)
	if len(got) != 32768*4 {
		t.Fatal("how many", len(got))
	}
	for i := range 32768 {
		if !slices.Equal(got[4*i:4*i+4], set(2*i, 0, 2*i, 4, 2*i, 8, 2*i+1, 0)) {
			t.Fatal("settings", got[4*i:4*i+4])
		}
	}
}

// P9.2

func TestOn(t *testing.T) {
	on := pick.Settle(set(2, 9, 2, 4, 1, 7, 0, 0, 65535, 65535, 300, 1, 300, 2), features())
	is := map[api.Setting]bool{}
	for _, s := range set(2, 9, 2, 4, 1, 7, 0, 0, 65535, 65535, 300, 1, 300, 2) {
		is[s] = true
	}
	numbers := []int{0, 1, 2, 3, 4, 5, 7, 8, 9, 10, 299, 300, 301, 65534, 65535, -1, 65536, 65538, 1<<32 + 2, math.MinInt, math.MaxInt}
	for _, a := range numbers {
		for _, b := range numbers {
			s := api.Setting{Type: a, Value: b}
			if pick.On(on, s) != is[s] {
				t.Errorf("On of %v: %v", s, !is[s])
			}
			if pick.On(nil, s) || pick.On(set(), s) {
				t.Errorf("On of %v without settings", s)
			}
		}
	}
}

// Of lists that Settle didn't answer nothing is promised, but that the call ends.
func TestOnOfAnyList(t *testing.T) {
	r := rand.New(rand.NewSource(92))
	for range 2000 {
		l := make([]api.Setting, r.Intn(20))
		for i := range l {
			l[i] = api.Setting{Type: r.Int() - r.Int(), Value: r.Int() - r.Int()}
		}
		pick.On(l, api.Setting{Type: r.Int() - r.Int(), Value: 3})
		pick.Flags(0, []pick.Rule{{Type: 1, Value: 2}}, l)
	}
}

// P9.3

func TestFlags(t *testing.T) {
	on := set(1, 2, 3, 4)
	both := pick.Rule{Type: 1, Value: 2, Enable: 0x0F, Disable: 0xFF00}
	other := pick.Rule{Type: 3, Value: 4, Enable: 0x100, Disable: 0xFFFFFFFC}
	off := pick.Rule{Type: 1, Value: 3, Enable: 0xFFFFFFFF, Disable: 0}
	for _, c := range []struct {
		what  string
		first uint32
		rules []pick.Rule
		want  uint32
	}{
		{"no rules", 0x12345678, nil, 0x12345678},
		{"a rule of a setting that is on", 0x12345678, []pick.Rule{both}, 0x560F},
		{"a rule of a setting that is off", 0x12345678, []pick.Rule{off}, 0x12345678},
		{"two rules", 0x12345678, []pick.Rule{both, other}, 0x570C},
		{"two rules, turned", 0x12345678, []pick.Rule{other, both}, 0x570F},
		{"rules among others", 0x12345678, []pick.Rule{off, both, off, other, off}, 0x570C},
		{"a rule twice", 0xFFFFFFFF, []pick.Rule{both, both}, 0xFF0F},
		{"a rule that does nothing", 0x12345678, []pick.Rule{{Type: 1, Value: 2, Disable: 0xFFFFFFFF}}, 0x12345678},
		{"a rule that takes all", 0xFFFFFFFF, []pick.Rule{{Type: 1, Value: 2}}, 0},
		{"bits that go and come", 0, []pick.Rule{{Type: 1, Value: 2, Enable: 0x80000001, Disable: 0x7FFFFFFE}}, 0x80000001},
		{"bits that come, and stay", 0xF0, []pick.Rule{{Type: 1, Value: 2, Enable: 0xFF, Disable: 0xFFFFFFFF}}, 0xFF},
		{"a type that is none", 5, []pick.Rule{{Type: 1 + 1<<16, Value: 2}, {Type: -1, Value: 2}, {Type: 1, Value: -2}}, 5},
		{"types and values turned", 5, []pick.Rule{{Type: 2, Value: 1}, {Type: 4, Value: 3}}, 5},
	} {
		was := slices.Clone(c.rules)
		if got := pick.Flags(c.first, c.rules, on); got != c.want {
			t.Errorf("Flags of %s: %x, not %x", c.what, got, c.want)
		}
		if !slices.Equal(c.rules, was) || !slices.Equal(on, set(1, 2, 3, 4)) {
			t.Errorf("Flags of %s changed what was handed in", c.what)
		}
		if got := pick.Flags(c.first, c.rules, nil); got != c.first {
			t.Errorf("Flags of %s without settings: %x", c.what, got)
		}
	}
}

// Each rule is asked by the settings that are on, not by those that were asked for.
func TestFlagsOfSettled(t *testing.T) {
	rules := []pick.Rule{{Type: 2, Value: 2, Enable: 1, Disable: 0xFFFFFFFF}, {Type: 2, Value: 3, Enable: 2, Disable: 0xFFFFFFFF}, {Type: 1, Value: 0, Enable: 4, Disable: 0xFFFFFFFF}, {Type: 1, Value: 5, Enable: 8, Disable: 0xFFFFFFFF}}
	on := pick.Settle(set(2, 3, 1, 0, 2, 2, 1, 5), features())
	if got := pick.Flags(0x100, rules, on); got != 0x109 {
		t.Errorf("Flags: %x", got)
	}
}
