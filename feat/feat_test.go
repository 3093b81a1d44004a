package feat_test

import (
	"bytes"
	"encoding/binary"
	"math"
	"math/rand"
	"runtime"
	"slices"
	"testing"

	"swash/api"
	"swash/feat"
)

// words: each one's two bytes.
func words(l ...int) []byte {
	var b []byte
	for _, n := range l {
		b = binary.BigEndian.AppendUint16(b, uint16(n))
	}
	return b
}

// head: of so many features; its six bytes that don't matter are none that could be right.
func head(n int) []byte { return words(1, 0, n, 0x1234, 0xFFFF, 0x8001) }

// row: a feature's, whose settings, so many, stand at a place.
func row(kind, n, at, flags int) []byte {
	return words(kind, n, at>>16, at, flags, 0xABCD)
}

// settings: four bytes each, of which the last two don't matter.
func settings(l ...int) []byte {
	var b []byte
	for _, n := range l {
		b = append(b, words(n, 0xFEDC)...)
	}
	return b
}

func alike(a, b feat.Feature) bool {
	return a.Type == b.Type && a.Exclusive == b.Exclusive && a.Default == b.Default && slices.Equal(a.Settings, b.Settings)
}

func taken(t *testing.T, what string, b []byte, want ...feat.Feature) {
	t.Helper()
	if got, e := feat.Read(b); e != api.OK || !slices.EqualFunc(got, want, alike) {
		t.Errorf("Read of %s: %v, %v, not %v", what, got, e, want)
	}
}

func refused(t *testing.T, what string, b []byte) {
	t.Helper()
	if got, e := feat.Read(b); e != api.ErrForm || len(got) > 0 {
		t.Errorf("Read of %s: %v, %v", what, got, e)
	}
}

// P8.1

func TestExample(t *testing.T) {
	b := append([]byte{0, 1, 0, 0, 0, 0}, make([]byte, 6)...)
	taken(t, "the document's example", b)
	taken(t, "no features, and bytes behind", append(b, 1, 2, 3))
	for n := range b {
		refused(t, "less than all bytes of no features", b[:n])
	}
}

// three: features of three settings, none and two.
func three() ([]byte, []feat.Feature) {
	b := slices.Concat(head(3), row(1, 3, 48, 0x8000), row(5, 0, 0, 0xC000), row(300, 2, 60, 0), settings(7, 65535, 9), settings(0, 3))
	return b, []feat.Feature{
		{Type: 1, Exclusive: true, Default: 7, Settings: []int{7, 65535, 9}},
		{Type: 5, Exclusive: true, Default: -1},
		{Type: 300, Default: -1, Settings: []int{0, 3}},
	}
}

func TestFeatures(t *testing.T) {
	b, want := three()
	taken(t, "three features", b, want...)
	taken(t, "three features, and bytes behind", append(slices.Clip(b), 0xFF, 0xFF, 0xFF), want...)
	for n := range b {
		refused(t, "less than all bytes of three features", b[:n])
	}
	for n := 4; n < 65536; n *= 2 {
		more := bytes.Clone(b)
		copy(more[4:], words(n))
		if n == 4 { // the settings' bytes could be a fourth feature's, but for their Types
			copy(more[48:], words(301, 0, 0, 0))
			taken(t, "four features", more, feat.Feature{Type: 1, Exclusive: true, Default: 301, Settings: []int{301, 0, 9}}, want[1], want[2], feat.Feature{Type: 301, Default: -1})
		} else {
			refused(t, "more features than there are", more)
		}
	}
}

func TestVersion(t *testing.T) {
	b, _ := three()
	for i := range 4 {
		for bit := range 8 {
			bad := bytes.Clone(b)
			bad[i] ^= 1 << bit
			refused(t, "another version", bad)
		}
	}
	refused(t, "the version 2", append(words(2, 0, 0), make([]byte, 6)...))
	refused(t, "the version 0", make([]byte, 12))
}

// Bytes that don't matter: behind how many there are, behind the flags, behind each setting.
func TestBytesThatDontMatter(t *testing.T) {
	b, want := three()
	for _, i := range []int{6, 7, 8, 9, 10, 11, 22, 23, 34, 35, 46, 47, 50, 51, 54, 55, 58, 59, 62, 63, 66, 67} {
		for _, x := range []byte{0, 1, 0x80, 0xFF} {
			b[i] = x
			taken(t, "other bytes that don't matter", b, want...)
		}
	}
}

func TestTypesRise(t *testing.T) {
	for _, c := range [][]int{{0}, {65535}, {0, 1}, {0, 65535}, {65534, 65535}, {1, 2, 3}, {255, 256}, {0x7FFF, 0x8000}} {
		b := head(len(c))
		var want []feat.Feature
		for _, kind := range c {
			b = append(b, row(kind, 0, 0, 0)...)
			want = append(want, feat.Feature{Type: kind, Default: -1})
		}
		taken(t, "types that rise", b, want...)
	}
	for _, c := range [][]int{{0, 0}, {1, 0}, {65535, 65535}, {65535, 0}, {1, 2, 2}, {1, 3, 2}, {2, 1, 3}, {1, 2, 1}, {256, 255}, {0x8000, 0x7FFF}} {
		b := head(len(c))
		for _, kind := range c {
			b = append(b, row(kind, 0, 0, 0)...)
		}
		refused(t, "types that don't rise", b)
	}
	b := head(65535)
	for i := range 65535 {
		b = append(b, row(i+1, 0, 0, 0)...)
	}
	if l, e := feat.Read(b); e != api.OK || len(l) != 65535 || l[65534].Type != 65535 {
		t.Error("Read of as many features as can be", len(l), e)
	}
	refused(t, "as many features as can be, without the last byte", b[:len(b)-1])
}

// Settings stand anywhere within the bytes, or, if there are none, at their end.
func TestWhereSettingsStand(t *testing.T) {
	for at := range 40 {
		b := slices.Concat(head(1), row(1, 0, at, 0x8000), []byte{0, 9, 0, 0})
		if at <= len(b) {
			taken(t, "no settings at a place", b, feat.Feature{Type: 1, Exclusive: true, Default: -1})
		} else {
			refused(t, "no settings beside the bytes", b)
		}
		copy(b[12:], row(1, 1, at, 0))
		if at <= len(b)-4 {
			taken(t, "a setting at a place", b, feat.Feature{Type: 1, Default: -1, Settings: []int{int(b[at])<<8 + int(b[at+1])}})
		} else {
			refused(t, "a setting beside the bytes", b)
		}
	}
	for _, at := range []int{1 << 16, 1 << 24, 1<<31 - 1, 1 << 31, 1<<32 - 24, 1<<32 - 4, 1<<32 - 1} {
		for _, n := range []int{0, 1, 65535} {
			refused(t, "settings far beside the bytes", slices.Concat(head(1), row(1, n, at, 0), settings(1, 2, 3)))
		}
	}
	refused(t, "more settings than there are", slices.Concat(head(1), row(1, 65535, 24, 0), settings(1, 2, 3)))
	// further behind than two bytes tell
	b := slices.Concat(head(1), row(1, 2, 0x12345, 0), make([]byte, 0x12345-24), settings(4, 5))
	taken(t, "settings far behind", b, feat.Feature{Type: 1, Default: -1, Settings: []int{4, 5}})
	l := make([]int, 65535)
	for i := range l {
		l[i] = i * 7 % 65536
	}
	b = slices.Concat(head(1), row(1, 65535, 24, 0x8000), settings(l...))
	taken(t, "as many settings as can be", b, feat.Feature{Type: 1, Exclusive: true, Default: 0, Settings: l})
	refused(t, "as many settings as can be, without the last byte", b[:len(b)-1])
}

// Features may share settings, and yet what is answered shares no memory.
func TestSharedSettings(t *testing.T) {
	b := slices.Concat(head(2), row(1, 2, 36, 0), row(2, 2, 36, 0x8000), settings(4, 5))
	was := bytes.Clone(b)
	want := []feat.Feature{{Type: 1, Default: -1, Settings: []int{4, 5}}, {Type: 2, Exclusive: true, Default: 4, Settings: []int{4, 5}}}
	taken(t, "shared settings", b, want...)
	l, _ := feat.Read(b)
	other, _ := feat.Read(b)
	l[0].Settings[0] = 99
	_ = append(l[0].Settings, 98)
	if !alike(l[1], want[1]) || !slices.EqualFunc(other, want, alike) {
		t.Error("answers share memory", l, other)
	}
	if !bytes.Equal(b, was) {
		t.Error("the bytes were changed")
	}
	clear(b)
	if !slices.EqualFunc(other, want, alike) {
		t.Error("the bytes were kept", other)
	}
}

// What is refused at its end takes no room for the settings ahead, which may be far more than the bytes.
func TestRoomOfWhatIsRefused(t *testing.T) {
	n := 100
	b := head(n)
	for i := range n {
		b = append(b, row(min(i, n-2), 65535, 0, 0)...)
	}
	b = append(b, make([]byte, 65535*4)...)
	var ahead, behind runtime.MemStats
	runtime.ReadMemStats(&ahead)
	refused(t, "many shared settings", b)
	runtime.ReadMemStats(&behind)
	if room := behind.TotalAlloc - ahead.TotalAlloc; room > 1<<23 {
		t.Errorf("refused with %d bytes of room", room)
	}
}

func TestDefault(t *testing.T) {
	l := []int{7, 65535, 9}
	for _, c := range []struct {
		flags int
		is    bool
		first int
	}{
		{0, false, -1}, {1, false, -1}, {0x4000, false, -1}, {0x4001, false, -1}, {0x7FFF, false, -1}, {0x3F00, false, -1},
		{0x8000, true, 7}, {0x8001, true, 7}, {0x8002, true, 7}, {0x80FF, true, 7}, {0xBF01, true, 7}, {0xBFFF, true, 7},
		{0xC000, true, 7}, {0xC001, true, 65535}, {0xC002, true, 9}, {0xC003, true, -1}, {0xC0FF, true, -1}, {0xFF01, true, 65535}, {0xC102, true, 9}, {0xFFFF, true, -1},
	} {
		b := slices.Concat(head(1), row(1, 3, 24, c.flags), settings(l...))
		taken(t, "flags", b, feat.Feature{Type: 1, Exclusive: c.is, Default: c.first, Settings: l})
		if c.is { // without settings none can be on
			taken(t, "flags without settings", slices.Concat(head(1), row(1, 0, 24, c.flags)), feat.Feature{Type: 1, Exclusive: true, Default: -1})
		}
	}
	many := make([]int, 300)
	for i := range many {
		many[i] = 1000 + i
	}
	for place := range 256 {
		b := slices.Concat(head(1), row(1, 300, 24, 0xC000|place), settings(many...))
		taken(t, "a default among many", b, feat.Feature{Type: 1, Exclusive: true, Default: 1000 + place, Settings: many})
	}
}

// P8.2

func TestExclusive(t *testing.T) {
	l := []feat.Feature{{Type: 1, Exclusive: true, Default: 3, Settings: []int{3}}, {Type: 2, Default: -1}, {Type: 300, Exclusive: true, Default: -1}, {Type: 0, Default: -1}}
	for kind, want := range map[int]bool{1: true, 2: false, 300: true, 0: false, 3: false, -1: false, 65536 + 1: false, 1<<32 + 1: false, math.MinInt: false, math.MaxInt: false} {
		if feat.Exclusive(l, kind) != want {
			t.Errorf("Exclusive of %d: %v", kind, !want)
		}
		if feat.Exclusive(nil, kind) {
			t.Errorf("Exclusive of %d without features", kind)
		}
	}
	if !alike(l[0], feat.Feature{Type: 1, Exclusive: true, Default: 3, Settings: []int{3}}) {
		t.Error("the list was changed", l)
	}
	if b, _ := three(); true {
		l, _ := feat.Read(b)
		if !feat.Exclusive(l, 1) || !feat.Exclusive(l, 5) || feat.Exclusive(l, 300) || feat.Exclusive(l, 4) {
			t.Error("Exclusive of what Read answers")
		}
	}
}

// model: the features that bytes have, as the document says, in another way; false: they have none such.
func model(b []byte) (out []feat.Feature, ok bool) {
	ok = true
	get := func(at, n int) int {
		x := 0
		for i := at; i < at+n; i++ {
			if i >= len(b) {
				ok = false
				return 0
			}
			x = x*256 + int(b[i])
		}
		return x
	}
	get(11, 1)
	if get(0, 4) != 65536 {
		return nil, false
	}
	for i := range get(4, 2) {
		at := 12 + 12*i
		get(at+11, 1)
		f := feat.Feature{Type: get(at, 2), Default: -1}
		stand, flags := get(at+4, 4), get(at+8, 2)
		if !ok || i > 0 && f.Type <= out[i-1].Type || stand > len(b) {
			return nil, false
		}
		for j := range get(at+2, 2) {
			get(stand+4*j+3, 1)
			f.Settings = append(f.Settings, get(stand+4*j, 2))
		}
		if flags >= 0x8000 {
			f.Exclusive = true
			first := 0
			if flags%0x8000 >= 0x4000 {
				first = flags % 256
			}
			if first < len(f.Settings) {
				f.Default = f.Settings[first]
			}
		}
		out = append(out, f)
	}
	return out, ok
}

// Bytes that are nearly a table: it is one just where the model says so, and then with its features.
func TestAnyBytes(t *testing.T) {
	r := rand.New(rand.NewSource(8))
	fine, not := 0, 0
	for range 60000 {
		n := r.Intn(4)
		b, kind := head(n), 0
		for range n {
			kind += r.Intn(4)
			b = append(b, row(kind, r.Intn(4), r.Intn(60), r.Intn(4)<<14|r.Intn(4))...)
		}
		for range r.Intn(40) {
			b = append(b, byte(r.Intn(256)))
		}
		for range r.Intn(3) {
			b[r.Intn(len(b))] = byte(r.Intn(256) >> r.Intn(8))
		}
		want, is := model(b)
		got, e := feat.Read(b)
		if !is {
			not++
			if e != api.ErrForm || len(got) > 0 {
				t.Fatalf("Read of %x: %v, %v", b, got, e)
			}
			continue
		}
		fine++
		if e != api.OK || !slices.EqualFunc(got, want, alike) {
			t.Fatalf("Read of %x: %v, %v, not %v", b, got, e, want)
		}
	}
	if fine < 3000 || not < 3000 {
		t.Error("too few were tables, or none", fine, not)
	}
}
