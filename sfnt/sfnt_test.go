package sfnt_test

import (
	"bytes"
	"encoding/binary"
	"math/rand"
	"slices"
	"strings"
	"testing"

	"swash/api"
	"swash/sfnt"
)

// rows: a font's header and rows, as they are told, and bytes behind them.
func rows(first uint32, n int, tables []sfnt.Table, behind string) []byte {
	b := binary.BigEndian.AppendUint32(nil, first)
	b = binary.BigEndian.AppendUint16(b, uint16(n))
	b = append(b, "other:"...)
	for _, t := range tables {
		b = append(b, t.Tag...)
		b = append(b, "any!"...)
		b = binary.BigEndian.AppendUint32(b, uint32(t.At))
		b = binary.BigEndian.AppendUint32(b, uint32(t.Len))
	}
	return append(b, behind...)
}

// hand: a font of these tables.
func hand(tables ...sfnt.Table) []byte {
	return rows(0x00010000, len(tables), tables, "some bytes")
}

func refused(t *testing.T, what string, b []byte) {
	t.Helper()
	if l, e := sfnt.Tables(b); e != api.ErrForm || len(l) != 0 {
		t.Errorf("Tables of %s: %v, %v", what, l, e)
	}
	if v, ok := sfnt.Find(b, "aaaa"); ok || v.Len() != 0 {
		t.Errorf("Find of %s: %x, %v", what, v.Bytes(), ok)
	}
}

func taken(t *testing.T, what string, b []byte, want ...sfnt.Table) {
	t.Helper()
	if l, e := sfnt.Tables(b); e != api.OK || !slices.Equal(l, want) {
		t.Errorf("Tables of %s: %v, %v", what, l, e)
	}
}

// P2.1

func TestTablesByHand(t *testing.T) {
	one := sfnt.Table{Tag: "aaaa", At: 44, Len: 4}
	two := sfnt.Table{Tag: "aaab", At: 46, Len: 8}
	taken(t, "two tables that share bytes", hand(one, two), one, two)
	taken(t, "the word true", rows(0x74727565, 1, []sfnt.Table{one}, strings.Repeat("x", 30)), one)
	taken(t, "no tables", rows(0x00010000, 0, nil, ""))
	taken(t, "no tables, and bytes behind", rows(0x00010000, 0, nil, "behind"))
	all := sfnt.Table{Tag: "aaaa", At: 0, Len: 38}
	taken(t, "a table of all bytes, the header too", hand(all), all)
}

func TestFirstNumber(t *testing.T) {
	one := []sfnt.Table{{Tag: "aaaa", At: 28, Len: 1}}
	for _, first := range []uint32{0, 1, 0x00010001, 0x00020000, 0x01000000, 0x74727564, 0x65757274, 0x4F54544F, 0x74746366, 0xFFFFFFFF} {
		refused(t, "another first number", rows(first, 1, one, "x"))
	}
}

func TestFewBytes(t *testing.T) {
	b := rows(0x00010000, 2, []sfnt.Table{{Tag: "aaaa", At: 44, Len: 2}, {Tag: "bbbb", At: 45, Len: 3}}, "1234")
	for n := range len(b) {
		refused(t, "less than all bytes", b[:n])
	}
	refused(t, "nothing", nil)
	refused(t, "a row less than it says", rows(0x00010000, 2, []sfnt.Table{{Tag: "aaaa", At: 0, Len: 0}}, "fifteen bytes.."))
	refused(t, "eleven bytes", rows(0x00010000, 0, nil, "")[:11])
	refused(t, "65535 tables", rows(0x00010000, 65535, nil, strings.Repeat("a", 999)))
}

func TestWhereTablesStand(t *testing.T) {
	const end = 12 + 16 + 10
	for _, c := range []struct{ at, n int }{{end, 0}, {0, 0}, {0, end}, {end - 1, 1}, {28, 10}, {12, 16}} {
		one := sfnt.Table{Tag: "aaaa", At: c.at, Len: c.n}
		taken(t, "a table within the bytes", hand(one), one)
	}
	for _, c := range []struct{ at, n int }{{end + 1, 0}, {end, 1}, {0, end + 1}, {end - 1, 2}, {1 << 31, 0}, {0, 1<<32 - 1}, {1<<32 - 1, 1}, {1<<32 - 1, 1<<32 - 1}, {1 << 31, 1 << 31}, {1<<32 - 10, 10}} {
		refused(t, "a table beside the bytes", hand(sfnt.Table{Tag: "aaaa", At: c.at, Len: c.n}))
	}
	refused(t, "a second table beside the bytes", hand(sfnt.Table{Tag: "aaaa"}, sfnt.Table{Tag: "bbbb", At: 55}))
}

func TestTagsRise(t *testing.T) {
	for _, c := range []struct {
		one, other string
		rise       bool
	}{
		{"aaaa", "aaab", true}, {"aaaa", "baaa", true}, {"abzz", "acaa", true}, {"ZZZZ", "aaaa", true}, {"aaa\x7f", "aaa\x80", true}, {"\x00\x00\x00\x00", "\x00\x00\x00\x01", true}, {"\x7f\xff\xff\xff", "\x80\x00\x00\x00", true},
		{"aaaa", "aaaa", false}, {"aaab", "aaaa", false}, {"baaa", "azzz", false}, {"aaaa", "ZZZZ", false}, {"aaa\x80", "aaa\x7f", false}, {"\xff\x00\x00\x00", "\x00\x00\x00\xff", false},
	} {
		one, other := sfnt.Table{Tag: c.one, At: 12, Len: 3}, sfnt.Table{Tag: c.other, At: 13, Len: 4}
		if c.rise {
			taken(t, "tags that rise", hand(one, other), one, other)
		} else {
			refused(t, "tags that don't rise: "+c.one+c.other, hand(one, other))
		}
	}
	refused(t, "a third tag that is the first one", hand(sfnt.Table{Tag: "aaaa"}, sfnt.Table{Tag: "bbbb"}, sfnt.Table{Tag: "aaaa"}))
}

// P2.2

func TestFind(t *testing.T) {
	b := hand(sfnt.Table{Tag: "aaaa", At: 60, Len: 10}, sfnt.Table{Tag: "bbbb", At: 65, Len: 5}, sfnt.Table{Tag: "cccc", At: 70, Len: 0})
	for tag, want := range map[string]string{"aaaa": "some bytes", "bbbb": "bytes", "cccc": ""} {
		if v, ok := sfnt.Find(b, tag); !ok || string(v.Bytes()) != want {
			t.Errorf("Find of %s: %q, %v", tag, v.Bytes(), ok)
		}
	}
	for _, tag := range []string{"", "a", "aaa", "aaaaa", "aaab", "AAAA", "aaaa\x00", "dddd", "bbbbbbbb"} {
		if v, ok := sfnt.Find(b, tag); ok || v.Len() != 0 {
			t.Errorf("Find of %q: %x, %v", tag, v.Bytes(), ok)
		}
	}
}

// A table that is there isn't found in bytes that are no font.
func TestFindInNoFont(t *testing.T) {
	b := hand(sfnt.Table{Tag: "aaaa", At: 44, Len: 3}, sfnt.Table{Tag: "bbbb", At: 44, Len: 999})
	refused(t, "a font with a table beside the bytes", b)
}

func TestFindIsUponTheBytes(t *testing.T) {
	b := hand(sfnt.Table{Tag: "aaaa", At: 28, Len: 4})
	v, _ := sfnt.Find(b, "aaaa")
	b[28] = 'S'
	if v.U8(0) != 'S' {
		t.Error("the View isn't one of the font's bytes")
	}
}

// P2.3

func TestMakeOfTwo(t *testing.T) {
	b := sfnt.Make(sfnt.Part{Tag: "bbbb", Data: []byte{1, 2, 3, 4, 5}}, sfnt.Part{Tag: "aaaa", Data: []byte{9}})
	want := "\x00\x01\x00\x00\x00\x02\x00\x20\x00\x01\x00\x00" +
		"aaaa\x09\x00\x00\x00\x00\x00\x00\x2c\x00\x00\x00\x01" +
		"bbbb\x06\x02\x03\x04\x00\x00\x00\x30\x00\x00\x00\x05" +
		"\x09\x00\x00\x00\x01\x02\x03\x04\x05\x00\x00\x00"
	if string(b) != want {
		t.Errorf("Make: %x", b)
	}
}

func TestMakeOfNothing(t *testing.T) {
	if b := sfnt.Make(); string(b) != "\x00\x01\x00\x00\x00\x00\x00\x00\x00\x00\x00\x00" {
		t.Errorf("Make of nothing: %x", b)
	}
	if b := sfnt.Make(sfnt.Part{Tag: "none"}); string(b) != "\x00\x01\x00\x00\x00\x01\x00\x10\x00\x00\x00\x00none\x00\x00\x00\x00\x00\x00\x00\x1c\x00\x00\x00\x00" {
		t.Errorf("Make of an empty table: %x", b)
	}
}

// tag: the one of a number; tags rise as the numbers do.
func tag(n int) string {
	return string(binary.BigEndian.AppendUint32(nil, uint32(n)<<8|0x80))
}

func TestMakesHeader(t *testing.T) {
	for _, c := range [][4]uint16{{1, 16, 0, 0}, {2, 32, 1, 0}, {3, 32, 1, 16}, {4, 64, 2, 0}, {5, 64, 2, 16}, {7, 64, 2, 48}, {8, 128, 3, 0}, {9, 128, 3, 16}, {1023, 8192, 9, 8176}, {2047, 16384, 10, 16368}, {2048, 32768, 11, 0}, {4000, 32768, 11, 31232}} {
		l := make([]sfnt.Part, c[0])
		for i := range l {
			l[i].Tag = tag(i * 7919 % 4001)
		}
		b := sfnt.Make(l...)
		want := binary.BigEndian.AppendUint32(nil, 0x00010000)
		for _, n := range c {
			want = binary.BigEndian.AppendUint16(want, n)
		}
		if len(b) != 12+16*int(c[0]) || !bytes.Equal(b[:12], want) {
			t.Errorf("header of %d parts: %x", c[0], b[:min(12, len(b))])
		}
		if got, e := sfnt.Tables(b); e != api.OK || len(got) != len(l) {
			t.Errorf("Tables of %d parts: %d, %v", c[0], len(got), e)
		}
	}
}

func TestMakeOfWhatCannotBe(t *testing.T) {
	many := make([]sfnt.Part, 4001)
	for i := range many {
		many[i].Tag = tag(i)
	}
	for what, l := range map[string][]sfnt.Part{
		"a tag of no bytes":    {{}},
		"a tag of three bytes": {{Tag: "aaaa"}, {Tag: "abc"}},
		"a tag of five bytes":  {{Tag: "abcde"}},
		"four runes":           {{Tag: "éééé"}},
		"two tags alike":       {{Tag: "aaaa", Data: []byte{1}}, {Tag: "aaaa", Data: []byte{2}}},
		"tags alike, apart":    {{Tag: "bbbb"}, {Tag: "aaaa"}, {Tag: "cccc"}, {Tag: "bbbb"}},
		"4001 parts":           many,
	} {
		if b := sfnt.Make(l...); len(b) != 0 {
			t.Errorf("Make of %s: %d bytes", what, len(b))
		}
	}
	if len(sfnt.Make(sfnt.Part{Tag: "éé"})) == 0 {
		t.Error("a tag of four bytes is none")
	}
}

func TestChecksumAndNoughts(t *testing.T) {
	for _, c := range []struct{ data, sum string }{
		{"", "\x00\x00\x00\x00"}, {"\x01", "\x01\x00\x00\x00"}, {"\x01\x02", "\x01\x02\x00\x00"}, {"\x01\x02\x03", "\x01\x02\x03\x00"}, {"\x01\x02\x03\x04", "\x01\x02\x03\x04"},
		{"\x01\x02\x03\x04\x05", "\x06\x02\x03\x04"}, {"\xff\xff\xff\xff\x00\x00\x00\x02", "\x00\x00\x00\x01"}, {"\xff\xff\xff\xff\xff\xff\xff\xff\xff", "\xfe\xff\xff\xfe"}, {"\x80\x00\x00\x00\x80\x00\x00\x00\x00\x01", "\x00\x01\x00\x00"},
	} {
		b := sfnt.Make(sfnt.Part{Tag: "data", Data: []byte(c.data)})
		behind := (len(c.data) + 3) / 4 * 4
		if len(b) != 28+behind || string(b[16:20]) != c.sum || string(b[28:]) != c.data+strings.Repeat("\x00", behind-len(c.data)) {
			t.Errorf("Make of %x: %x", c.data, b)
		}
	}
}

// P2, and all promises together

func TestMakeChangesNothing(t *testing.T) {
	data := []byte{1, 2, 3, 4, 5, 6}
	l := []sfnt.Part{{"cccc", data[:3:6]}, {"aaaa", data[3:]}, {"bbbb", nil}, {"zzzz", nil}}
	b := sfnt.Make(l[:3]...)
	if l[0].Tag != "cccc" || l[1].Tag != "aaaa" || l[2].Tag != "bbbb" || l[3].Tag != "zzzz" || !bytes.Equal(data, []byte{1, 2, 3, 4, 5, 6}) {
		t.Error("what was handed in was changed", l, data)
	}
	again := sfnt.Make(l[:3]...)
	clear(b)
	if !bytes.Equal(data, []byte{1, 2, 3, 4, 5, 6}) || !bytes.Equal(again, sfnt.Make(l[:3]...)) {
		t.Error("the answer shares memory")
	}
}

func TestTablesKeepNothing(t *testing.T) {
	b := hand(sfnt.Table{Tag: "aaaa", At: 28, Len: 4})
	was := bytes.Clone(b)
	l, _ := sfnt.Tables(b)
	sfnt.Find(b, "aaaa")
	if !bytes.Equal(b, was) {
		t.Error("the bytes were changed")
	}
	clear(b)
	if l[0] != (sfnt.Table{Tag: "aaaa", At: 28, Len: 4}) {
		t.Error("the answer hangs on the bytes", l)
	}
}

func TestWhatIsMadeIsFound(t *testing.T) {
	r := rand.New(rand.NewSource(1))
	for range 300 {
		var l []sfnt.Part
		for _, i := range r.Perm(r.Intn(40)) {
			data := make([]byte, r.Intn(20))
			r.Read(data)
			l = append(l, sfnt.Part{Tag: tag(i), Data: data})
		}
		b := sfnt.Make(l...)
		tables, e := sfnt.Tables(b)
		if e != api.OK || len(tables) != len(l) {
			t.Fatalf("Tables: %v, %v", tables, e)
		}
		at := 12 + 16*len(l)
		for _, x := range tables {
			if x.At != at {
				t.Fatalf("a table stands at %d, not at %d", x.At, at)
			}
			at += (x.Len + 3) / 4 * 4
		}
		for _, p := range l {
			if v, ok := sfnt.Find(b, p.Tag); !ok || !bytes.Equal(v.Bytes(), p.Data) {
				t.Fatalf("Find of %q: %x, %v", p.Tag, v.Bytes(), ok)
			}
		}
	}
}

// P1: no bytes make a call panic, and what it answers is within them.
func TestAnyBytes(t *testing.T) {
	r := rand.New(rand.NewSource(2))
	whole := sfnt.Make(sfnt.Part{Tag: "aaaa", Data: []byte("one")}, sfnt.Part{Tag: "bbbb", Data: []byte("another")}, sfnt.Part{Tag: "cccc"})
	for range 20000 {
		b := bytes.Clone(whole)[:r.Intn(len(whole)+1)]
		for range r.Intn(4) {
			if len(b) > 0 {
				b[r.Intn(len(b))] = byte(r.Intn(256) >> r.Intn(8))
			}
		}
		l, e := sfnt.Tables(b)
		if e != api.OK && e != api.ErrForm || e != api.OK && len(l) > 0 {
			t.Fatalf("Tables of %x: %v, %v", b, l, e)
		}
		for _, x := range l {
			v, ok := sfnt.Find(b, x.Tag)
			if !ok || x.At+x.Len > len(b) || !bytes.Equal(v.Bytes(), b[x.At:x.At+x.Len]) {
				t.Fatalf("Find of %q in %x: %x, %v", x.Tag, b, v.Bytes(), ok)
			}
		}
	}
}
