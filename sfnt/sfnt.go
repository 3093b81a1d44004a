// Package sfnt finds a font's tables.
package sfnt

import (
	"math/bits"
	"slices"
	"strings"

	"swash/api"
	"swash/view"
)

const (
	version  = 0x00010000 // a font's first number
	wordTrue = 0x74727565 // or that: the letters true
	head     = 12         // bytes ahead of the tables' rows
	row      = 16         // bytes of each of these
	maxParts = 4000       // 16 times as many is within two bytes
)

// Table is where a table stands.
type Table struct {
	Tag     string
	At, Len int
}

// Part is a table's tag and its bytes.
type Part struct {
	Tag  string
	Data []byte
}

// Tables: all tables of a font, by rising tags.
func Tables(b []byte) (out []Table, e api.Errno) {
	if !view.Try(func() { out = take(view.Of(b)) }) {
		return nil, api.ErrForm
	}
	return out, api.OK
}

// take: likewise; it throws.
func take(v view.View) []Table {
	first := v.U32(0)
	view.Need(first == version || first == wordTrue)
	n := v.U16(4)
	rows := v.Rows(head, n, row)
	out := make([]Table, n)
	for i := range n {
		r := rows.Cut(i*row, row)
		t := Table{Tag: string(r.Cut(0, 4).Bytes()), At: r.U32(8), Len: r.U32(12)}
		view.Need(i == 0 || out[i-1].Tag < t.Tag)
		v.Cut(t.At, t.Len) // for its throw alone: all bytes are there
		out[i] = t
	}
	return out
}

// Find: a font's table; false: it has none such, or is no font.
func Find(b []byte, tag string) (view.View, bool) {
	tables, _ := Tables(b) // none of what is no font
	i := slices.IndexFunc(tables, func(t Table) bool { return t.Tag == tag })
	if i < 0 {
		return view.View{}, false
	}
	return view.Of(b).Cut(tables[i].At, tables[i].Len), true
}

// Make: a font of some tables; nil: it can't be.
func Make(l ...Part) []byte {
	parts := slices.Clone(l) // the list that was handed in keeps its order
	slices.SortFunc(parts, func(a, b Part) int { return strings.Compare(a.Tag, b.Tag) })
	if !canBe(parts) {
		return nil
	}
	out := header(len(parts))
	at := head + row*len(parts)
	for _, p := range parts {
		out = append(out, p.Tag...)
		out = put32(out, checksum(p.Data), uint32(at), uint32(len(p.Data)))
		at += len(p.Data) + lack(p.Data)
	}
	for _, p := range parts {
		out = append(out, p.Data...)
		out = append(out, make([]byte, lack(p.Data))...)
	}
	return out
}

// canBe: is there a font of these parts, which are in order?
func canBe(parts []Part) bool {
	for i, p := range parts {
		if len(p.Tag) != 4 || i > 0 && parts[i-1].Tag == p.Tag {
			return false
		}
	}
	return len(parts) <= maxParts
}

// header: what stands ahead of the rows of so many tables.
func header(n int) []byte {
	power, exponent := 0, 0
	if n > 0 {
		exponent = bits.Len(uint(n)) - 1
		power = row << exponent
	}
	return put16(put32(nil, version), n, power, exponent, row*n-power)
}

// checksum: each byte counts by its place among four, so noughts behind count nothing.
func checksum(data []byte) uint32 {
	sum := uint32(0)
	for i, b := range data {
		sum += uint32(b) << (24 - 8*(i%4))
	}
	return sum
}

// lack: how many bytes lack to a multiple of four.
func lack(data []byte) int { return (4 - len(data)%4) % 4 }

func put16(b []byte, l ...int) []byte {
	for _, n := range l {
		b = append(b, byte(n>>8), byte(n))
	}
	return b
}

func put32(b []byte, l ...uint32) []byte {
	for _, n := range l {
		b = append(b, byte(n>>24), byte(n>>16), byte(n>>8), byte(n))
	}
	return b
}
