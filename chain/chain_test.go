package chain_test

import (
	"bytes"
	"encoding/binary"
	"math/rand"
	"slices"
	"testing"

	"swash/api"
	"swash/chain"
	"swash/pick"
	"swash/view"
)

// words, longs: each one's two, or four, bytes.
func words(l ...int) []byte {
	var b []byte
	for _, n := range l {
		b = binary.BigEndian.AppendUint16(b, uint16(n))
	}
	return b
}

func longs(l ...int) []byte {
	var b []byte
	for _, n := range l {
		b = binary.BigEndian.AppendUint32(b, uint32(n))
	}
	return b
}

// table: a table's bytes of these chains' bytes.
func table(version int, chains ...[]byte) []byte {
	return slices.Concat(words(version, 0xFFFF), longs(len(chains)), slices.Concat(chains...))
}

// laid: a chain's bytes of some rules' bytes, and some subtables', with some more behind.
func laid(first int, rules, subs [][]byte, more ...byte) []byte {
	behind := slices.Concat(slices.Concat(rules...), slices.Concat(subs...), more)
	return slices.Concat(longs(first, 16+len(behind), len(rules), len(subs)), behind)
}

// rule, sub: the bytes of one.
func rule(kind, value, enable, disable int) []byte {
	return slices.Concat(words(kind, value), longs(enable, disable))
}

func sub(cover, flags int, data ...byte) []byte {
	return slices.Concat(longs(12+len(data), cover, flags), data)
}

// same: are these the same chains, as far as their bytes go?
func same(a, b []chain.Chain) bool {
	return slices.EqualFunc(a, b, func(x, y chain.Chain) bool {
		return x.First == y.First && slices.Equal(x.Rules, y.Rules) && slices.EqualFunc(x.Subs, y.Subs, func(s, u chain.Sub) bool {
			return s.Cover == u.Cover && s.Flags == u.Flags && bytes.Equal(s.Data.Bytes(), u.Data.Bytes())
		})
	})
}

func data(b ...byte) view.View { return view.Of(b) }

func taken(t *testing.T, what string, b []byte, want ...chain.Chain) {
	t.Helper()
	if l, e := chain.Read(b); e != api.OK || !same(l, want) {
		t.Errorf("Read of %s: %v, %v, not %v", what, l, e, want)
	}
	var l []chain.Chain
	if !view.Try(func() { l = chain.Take(view.Of(b)) }) || !same(l, want) {
		t.Errorf("Take of %s: %v, not %v", what, l, want)
	}
}

func refused(t *testing.T, what string, b []byte) {
	t.Helper()
	if l, e := chain.Read(b); len(l) != 0 || e != api.ErrForm {
		t.Errorf("Read of %s: %v, %v", what, l, e)
	}
	if view.Try(func() { chain.Take(view.Of(b)) }) {
		t.Errorf("Take of %s doesn't throw", what)
	}
}

// P19.1

func TestExample(t *testing.T) { taken(t, "no chains", []byte{0, 2, 0, 0, 0, 0, 0, 0}) }

// plain: two chains, and what they are; the first one has a bit of all, and bytes that nobody asks for behind.
func plain() ([]byte, []chain.Chain) {
	b := table(3,
		laid(0x80000001, [][]byte{rule(1, 2, 3, 4), rule(0xFFFF, 0x8000, 0xFFFFFFFF, 0x80000000)}, [][]byte{sub(0x40000001, 0x90000000, 7, 8, 9), sub(5, 6)}, 1, 2, 3),
		laid(9, [][]byte{rule(0, 0, 0, 0)}, [][]byte{sub(0xFFFFFFFF, 0xFFFFFFFF, 1, 2)}),
	)
	return b, []chain.Chain{
		{
			First: 0x80000001,
			Rules: []pick.Rule{{Type: 1, Value: 2, Enable: 3, Disable: 4}, {Type: 0xFFFF, Value: 0x8000, Enable: 0xFFFFFFFF, Disable: 0x80000000}},
			Subs:  []chain.Sub{{Cover: 0x40000001, Flags: 0x90000000, Data: data(7, 8, 9)}, {Cover: 5, Flags: 6}},
		},
		{First: 9, Rules: []pick.Rule{{}}, Subs: []chain.Sub{{Cover: 0xFFFFFFFF, Flags: 0xFFFFFFFF, Data: data(1, 2)}}},
	}
}

// Each byte up to the last chain's last one is needed, and none behind.
func TestPieces(t *testing.T) {
	b, want := plain()
	taken(t, "all bytes", b, want...)
	for n := range b {
		refused(t, "less than all bytes", b[:n])
	}
	for _, more := range [][]byte{{0}, {0xFF, 0xFF}, make([]byte, 100)} {
		taken(t, "more bytes", slices.Concat(b, more), want...)
	}
}

func TestVersions(t *testing.T) {
	b, want := plain()
	for version := range 1 << 16 {
		binary.BigEndian.PutUint16(b, uint16(version))
		if version == 2 || version == 3 {
			taken(t, "a version that may be", b, want...)
		} else if _, e := chain.Read(b); e != api.ErrForm {
			t.Errorf("Read of the version %d: %v", version, e)
		}
	}
	binary.BigEndian.PutUint16(b, 2)
	for _, n := range []uint16{0, 1, 0xFFFF} {
		binary.BigEndian.PutUint16(b[2:], n)
		taken(t, "bytes that don't matter", b, want...)
	}
}

// How many chains there are is told; fewer may be asked for than are there, not more.
func TestHowManyChains(t *testing.T) {
	b, want := plain()
	for n := range want {
		binary.BigEndian.PutUint32(b[4:], uint32(n))
		taken(t, "fewer chains", b, want[:n]...)
	}
	for _, n := range []uint32{3, 1 << 16, 1<<31 - 1, 1 << 31, 1<<32 - 1} {
		binary.BigEndian.PutUint32(b[4:], n)
		refused(t, "more chains", b)
	}
	empty := laid(7, nil, nil)
	taken(t, "chains of nothing", table(2, empty, empty, empty), chain.Chain{First: 7}, chain.Chain{First: 7}, chain.Chain{First: 7})
}

// A chain has 16 bytes at least, and all that it tells of are the table's.
func TestHowManyBytesOfAChain(t *testing.T) {
	b := slices.Concat(table(2, laid(7, nil, nil)), make([]byte, 20))
	for n := range uint32(37) {
		binary.BigEndian.PutUint32(b[12:], n)
		if n < 16 {
			refused(t, "a chain of too few bytes", b)
		} else {
			taken(t, "a chain of enough bytes", b, chain.Chain{First: 7})
		}
	}
	for _, n := range []uint32{37, 1 << 16, 1 << 31, 1<<32 - 1, 1<<32 - 20} {
		binary.BigEndian.PutUint32(b[12:], n)
		refused(t, "a chain of bytes that aren't there", b)
	}
}

// The next chain stands behind all bytes of the one ahead.
func TestBytesBetweenChains(t *testing.T) {
	for n := range 20 {
		more := slices.Repeat([]byte{0xFE}, n)
		b := table(2, laid(1, nil, [][]byte{sub(5, 6, 7)}, more...), laid(2, nil, nil, more...), laid(3, nil, nil))
		taken(t, "bytes between", b, chain.Chain{First: 1, Subs: []chain.Sub{{Cover: 5, Flags: 6, Data: data(7)}}}, chain.Chain{First: 2}, chain.Chain{First: 3})
	}
}

// A chain's rules are within its bytes, whatever stands behind these.
func TestHowManyRules(t *testing.T) {
	const at = 8 + 8
	one := rule(1, 2, 3, 4)
	b := slices.Concat(table(2, laid(7, [][]byte{one, one}, nil)), one)
	is := pick.Rule{Type: 1, Value: 2, Enable: 3, Disable: 4}
	for n := range 3 {
		binary.BigEndian.PutUint32(b[at:], uint32(n))
		taken(t, "rules", b, chain.Chain{First: 7, Rules: slices.Repeat([]pick.Rule{is}, n)})
	}
	// of 2^30 and a few more the product with 12 goes round to 12 times these few, within 32 bits
	for _, n := range []uint32{3, 4, 1 << 16, 1 << 30, 1<<30 + 1, 1<<30 + 2, 1 << 31, 1<<32 - 1} {
		binary.BigEndian.PutUint32(b[at:], n)
		refused(t, "rules that aren't there", b)
	}
	binary.BigEndian.PutUint32(b[at:], 2)
	for n := 16; n < 40; n++ {
		binary.BigEndian.PutUint32(b[12:], uint32(n))
		refused(t, "rules of which some bytes are behind the chain", b)
	}
}

// A chain's subtables are within its bytes, whatever stands behind these.
func TestHowManySubtables(t *testing.T) {
	const at = 8 + 12
	one := sub(1, 2, 3)
	b := slices.Concat(table(2, laid(7, nil, [][]byte{one, one})), one)
	is := chain.Sub{Cover: 1, Flags: 2, Data: data(3)}
	for n := range 3 {
		binary.BigEndian.PutUint32(b[at:], uint32(n))
		taken(t, "subtables", b, chain.Chain{First: 7, Subs: slices.Repeat([]chain.Sub{is}, n)})
	}
	for _, n := range []uint32{3, 4, 1 << 16, 1 << 31, 1<<32 - 1} {
		binary.BigEndian.PutUint32(b[at:], n)
		refused(t, "subtables that aren't there", b)
	}
	binary.BigEndian.PutUint32(b[at:], 2)
	for n := 16; n < 16+26; n++ {
		binary.BigEndian.PutUint32(b[12:], uint32(n))
		refused(t, "subtables of which some bytes are behind the chain", b)
	}
}

// A subtable has 12 bytes at least, and all that it tells of are its chain's.
func TestHowManyBytesOfASubtable(t *testing.T) {
	const at = 8 + 16
	more := []byte{1, 2, 3, 4, 5}
	b := slices.Concat(table(2, laid(7, nil, [][]byte{sub(1, 2)}, more...)), more)
	for n := range 18 {
		binary.BigEndian.PutUint32(b[at:], uint32(n))
		if n < 12 {
			refused(t, "a subtable of too few bytes", b)
		} else {
			taken(t, "a subtable of enough bytes", b, chain.Chain{First: 7, Subs: []chain.Sub{{Cover: 1, Flags: 2, Data: data(more[:n-12]...)}}})
		}
	}
	for _, n := range []uint32{18, 22, 23, 1 << 16, 1 << 31, 1<<32 - 1, 1<<32 - 16} {
		binary.BigEndian.PutUint32(b[at:], n)
		refused(t, "a subtable of bytes that aren't there", b)
	}
}

// No memory is asked for by what is told alone.
func TestGreatNumbers(t *testing.T) {
	for range 1000 {
		refused(t, "many chains", slices.Concat(words(2, 0), longs(1<<32-1)))
		refused(t, "many rules", slices.Concat(words(2, 0), longs(1, 0, 16, 1<<32-1, 0)))
		refused(t, "many subtables", slices.Concat(words(2, 0), longs(1, 0, 16, 0, 1<<32-1)))
	}
}

// P19.2

func TestTakeWithin(t *testing.T) {
	b, want := plain()
	v := view.Of(slices.Concat([]byte{0, 2, 0}, b))
	var l []chain.Chain
	if !view.Try(func() { l = chain.Take(v.Rest(3)) }) || !same(l, want) {
		t.Error("Take of a view within", l)
	}
	if view.Try(func() { chain.Take(view.View{}) }) {
		t.Error("Take of no bytes doesn't throw")
	}
	refused(t, "no bytes", nil)
}

// The subtables' bytes are the view's own, all else isn't.
func TestWhatIsKept(t *testing.T) {
	b, want := plain()
	was := bytes.Clone(b)
	l, again := chain.Take(view.Of(b)), chain.Take(view.Of(b))
	if !bytes.Equal(b, was) {
		t.Errorf("the bytes were changed: %x", b)
	}
	for i := range again {
		clear(again[i].Rules)
		clear(again[i].Subs)
	}
	clear(again)
	if !same(l, want) {
		t.Error("one answer hangs on another one", l)
	}
	for i := range b {
		b[i] ^= 0xFF
	}
	for i, c := range l {
		if c.First != want[i].First || !slices.Equal(c.Rules, want[i].Rules) {
			t.Error("flags, or rules, that hang on the bytes", c)
		}
		for k, s := range c.Subs {
			is := want[i].Subs[k]
			turned := is.Data.Bytes()
			for n := range turned {
				turned[n] ^= 0xFF
			}
			if s.Cover != is.Cover || s.Flags != is.Flags || !bytes.Equal(s.Data.Bytes(), turned) {
				t.Error("a subtable", s)
			}
		}
	}
}

// some: a table's bytes, and the chains that it has.
func some(r *rand.Rand) ([]byte, []chain.Chain) {
	bits := func() int { return []int{r.Intn(3), int(r.Uint32())}[r.Intn(2)] }
	few := func() []byte {
		b := make([]byte, r.Intn(7))
		r.Read(b)
		return b
	}
	var l []chain.Chain
	var chains [][]byte
	for range r.Intn(4) {
		c := chain.Chain{First: uint32(bits())}
		var rules, subs [][]byte
		for range r.Intn(4) {
			x := pick.Rule{Type: r.Intn(65536), Value: r.Intn(65536), Enable: uint32(bits()), Disable: uint32(bits())}
			c.Rules = append(c.Rules, x)
			rules = append(rules, rule(x.Type, x.Value, int(x.Enable), int(x.Disable)))
		}
		for range r.Intn(4) {
			x := chain.Sub{Cover: uint32(bits()), Flags: uint32(bits()), Data: view.Of(few())}
			c.Subs = append(c.Subs, x)
			subs = append(subs, sub(int(x.Cover), int(x.Flags), x.Data.Bytes()...))
		}
		l = append(l, c)
		chains = append(chains, laid(int(c.First), rules, subs, few()...))
	}
	return table(2+r.Intn(2), chains...), l
}

func TestAnyChains(t *testing.T) {
	r := rand.New(rand.NewSource(19))
	for range 5000 {
		b, want := some(r)
		taken(t, "any chains", slices.Concat(b, make([]byte, r.Intn(3))), want...)
		if len(b) > 0 {
			refused(t, "any chains but their end", b[:r.Intn(len(b))])
		}
	}
}

// P1: whatever bytes there are, Read ends.
func TestAnyBytes(t *testing.T) {
	r := rand.New(rand.NewSource(119))
	read := 0
	for range 100000 {
		b, _ := some(r)
		for range 1 + r.Intn(3) {
			b[r.Intn(len(b))] = byte([]int{r.Intn(256), r.Intn(20), 0, 0xFF}[r.Intn(4)])
		}
		l, e := chain.Read(b)
		if e != api.OK && (e != api.ErrForm || len(l) != 0) {
			t.Fatalf("Read of %x: %v, %v", b, l, e)
		}
		if e == api.OK {
			read++
		}
	}
	if read < 3000 || read > 97000 {
		t.Error("too few, or too many, tables were read", read)
	}
}
