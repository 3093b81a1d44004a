// Package view reads numbers of bytes, the higher byte first, and never beside them.
package view

import "slices"

// View is bytes that are looked at; the zero one has none.
type View struct{ bytes []byte }

// thrown is what a call panics by. No other package can make one, so Try takes no other panic for it.
type thrown struct{}

// Of: a view of bytes.
func Of(b []byte) View { return View{b} }

// Fail: the bytes are none such.
func Fail() { panic(thrown{}) }

// Need: fails, unless something holds.
func Need(is bool) {
	if !is {
		Fail()
	}
}

// Try: does a function end without Fail?
func Try(f func()) (ok bool) {
	if f == nil { // it can't be called, so it doesn't end
		return false
	}
	defer func() {
		switch x := recover().(type) {
		case nil, thrown:
		default: // not this layer's: somebody else waits for it
			panic(x)
		}
	}()
	f()
	return true
}

// Len: how many bytes.
func (v View) Len() int { return len(v.bytes) }

// Cut: a view of so many bytes from a place on.
func (v View) Cut(at, n int) View {
	rest := v.Rest(at)
	Need(0 <= n && n <= rest.Len())
	return View{rest.bytes[:n]}
}

// Rest: a view of all bytes from a place on.
func (v View) Rest(at int) View {
	Need(0 <= at && at <= v.Len())
	return View{v.bytes[at:]}
}

// Rows: a view of so many rows of so many bytes.
func (v View) Rows(at, n, size int) View {
	rest := v.Rest(at)
	Need(n >= 0 && size >= 0)
	Need(size == 0 || n <= rest.Len()/size) // the product itself might go round
	return rest.Cut(0, n*size)
}

// U8: the number of one byte.
func (v View) U8(at int) int { return int(v.Cut(at, 1).bytes[0]) }

// U16: the number of two bytes.
func (v View) U16(at int) int {
	b := v.Cut(at, 2).bytes
	return int(b[0])<<8 | int(b[1])
}

// U32: the number of four bytes.
func (v View) U32(at int) int {
	b := v.Cut(at, 4).bytes
	return int(b[0])<<24 | int(b[1])<<16 | int(b[2])<<8 | int(b[3])
}

// I16: the number of two bytes, below nought, too.
func (v View) I16(at int) int { return int(int16(v.U16(at))) }

// I32: the number of four bytes, below nought, too.
func (v View) I32(at int) int { return int(int32(v.U32(at))) }

// Bytes: the bytes, as new memory.
func (v View) Bytes() []byte { return slices.Clone(v.bytes) }
