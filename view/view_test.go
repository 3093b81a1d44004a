package view_test

import (
	"bytes"
	"errors"
	"math"
	"testing"

	"swash/view"
)

var sample = []byte{1, 2, 0xFF, 0xFE, 0x80, 0, 0x7F, 0xFF, 0xFF, 0xFF}

// numbers: all from a bit below nought to a bit above n, and such as are far from both.
func numbers(n int) []int {
	l := []int{math.MinInt, math.MinInt + 1, -1 << 32, 1 << 31, 1 << 32, 1 << 62, math.MaxInt - 3, math.MaxInt - 1, math.MaxInt}
	for i := -5; i <= n+5; i++ {
		l = append(l, i)
	}
	return l
}

// thrown: what a function panics by, and whether it does.
func thrown(f func()) (x any, is bool) {
	defer func() {
		if is {
			x = recover()
		}
	}()
	is = true
	f()
	is = false
	return nil, is
}

// P1.1

func TestOfLenBytes(t *testing.T) {
	for n := range len(sample) + 1 {
		b := bytes.Clone(sample[:n])
		v := view.Of(b)
		if v.Len() != n || !bytes.Equal(v.Bytes(), sample[:n]) {
			t.Errorf("Of %d bytes: %d, %x", n, v.Len(), v.Bytes())
		}
	}
}

func TestZeroViewHasNoBytes(t *testing.T) {
	var v view.View
	if v.Len() != 0 || len(v.Bytes()) != 0 || view.Of(nil).Len() != 0 {
		t.Error("the zero View has bytes")
	}
	if !view.Try(func() { v.Cut(0, 0); v.Rest(0); v.Rows(0, 0, 9) }) {
		t.Error("there is an end at 0")
	}
	if view.Try(func() { v.U8(0) }) {
		t.Error("there is no byte")
	}
}

func TestBytesAreNewMemory(t *testing.T) {
	b := bytes.Clone(sample)
	v := view.Of(b).Cut(2, 3)
	one, other := v.Bytes(), v.Bytes()
	clear(one)
	_ = append(other[:2], 9, 9, 9, 9)
	if !bytes.Equal(b, sample) {
		t.Errorf("the bytes were changed: %x", b)
	}
	if !bytes.Equal(v.Bytes(), sample[2:5]) {
		t.Errorf("a later answer was changed: %x", v.Bytes())
	}
	if other = v.Bytes(); one[0] != 0 || other[0] != 0xFF {
		t.Error("two answers share memory")
	}
}

func TestNothingIsChanged(t *testing.T) {
	b := bytes.Clone(sample)
	v := view.Of(b[:6])
	v.Cut(1, 3).Bytes()
	v.Rows(0, 2, 2).U16(1)
	v.Rest(2).I32(0)
	view.Try(func() { v.U32(4) })
	if !bytes.Equal(b, sample) {
		t.Errorf("the bytes were changed: %x", b)
	}
}

// P1.2

func TestFailAndNeedThrow(t *testing.T) {
	if view.Try(view.Fail) {
		t.Error("Fail doesn't throw")
	}
	if view.Try(func() { view.Need(false) }) {
		t.Error("Need of what doesn't hold doesn't throw")
	}
	if !view.Try(func() { view.Need(true) }) {
		t.Error("Need of what holds throws")
	}
	if _, is := thrown(view.Fail); !is {
		t.Error("Fail doesn't panic")
	}
}

func TestTryCallsOnce(t *testing.T) {
	n := 0
	if !view.Try(func() { n++ }) || n != 1 {
		t.Error("Try of what ends", n)
	}
	if view.Try(func() { n++; view.Fail(); n += 10 }) || n != 2 {
		t.Error("Try of what throws", n)
	}
}

func TestTryCatchesHoweverDeep(t *testing.T) {
	var deep func(n int)
	deep = func(n int) {
		if n == 0 {
			view.Of(nil).U8(0)
		}
		deep(n - 1)
	}
	if view.Try(func() { deep(1000) }) {
		t.Error("a throw from deep within isn't caught")
	}
}

func TestTryWithinTry(t *testing.T) {
	inner := true
	if !view.Try(func() { inner = view.Try(view.Fail) }) || inner {
		t.Error("a throw that was caught goes on")
	}
	if view.Try(func() { view.Try(view.Fail); view.Fail() }) {
		t.Error("a throw behind one that was caught isn't caught")
	}
	if view.Try(func() { defer view.Fail() }) {
		t.Error("a throw of a deferred call isn't caught")
	}
}

func TestOtherPanicsGoOn(t *testing.T) {
	type own struct{}
	e := errors.New("another one")
	for _, x := range []any{"text", 7, e, own{}, struct{}{}, false, &own{}} {
		if got, is := thrown(func() { view.Try(func() { panic(x) }) }); !is || got != x {
			t.Errorf("panic of %v: %v, %v", x, got, is)
		}
	}
	var none []int
	if got, is := thrown(func() { view.Try(func() { none[0]++ }) }); !is {
		t.Error("a panic of the language doesn't go on")
	} else if _, ok := got.(error); !ok {
		t.Errorf("a panic of the language goes on as %v", got)
	}
	if _, is := thrown(func() { view.Try(func() { panic(nil) }) }); !is {
		t.Error("a panic of nil doesn't go on")
	}
	if got, is := thrown(func() { view.Try(func() { view.Try(func() { panic("deep") }) }) }); !is || got != "deep" {
		t.Error("a panic doesn't go on through two", got, is)
	}
}

func TestTryOfNoFunction(t *testing.T) {
	if _, is := thrown(func() { view.Try(nil) }); is || view.Try(nil) {
		t.Error("Try of no function")
	}
}

// P1.3

// sum: the number of n bytes, in another way than the package has it; false: they aren't there.
func sum(b []byte, at, n int, below bool) (int, bool) {
	if at < 0 || at > len(b) || n > len(b)-at {
		return 0, false
	}
	s, all := 0, 1
	for i := range n {
		s, all = s*256+int(b[at+i]), all*256
	}
	if below && s >= all/2 {
		s -= all
	}
	return s, true
}

func TestNumbers(t *testing.T) {
	v := view.Of(sample)
	for _, c := range []struct {
		name  string
		n     int
		below bool
		get   func(int) int
	}{
		{"U8", 1, false, v.U8}, {"U16", 2, false, v.U16}, {"U32", 4, false, v.U32}, {"I16", 2, true, v.I16}, {"I32", 4, true, v.I32},
	} {
		for _, at := range numbers(len(sample)) {
			want, is := sum(sample, at, c.n, c.below)
			got := 0
			if ok := view.Try(func() { got = c.get(at) }); ok != is || got != want {
				t.Errorf("%s(%d): %d, %v, not %d, %v", c.name, at, got, ok, want, is)
			}
		}
	}
}

func TestNumbersAtTheEdges(t *testing.T) {
	v := view.Of([]byte{0x80, 0, 0, 0, 0x7F, 0xFF, 0xFF, 0xFF, 0xFF, 0xFF, 0xFF, 0xFF})
	if v.I16(0) != -32768 || v.I16(4) != 32767 || v.I16(6) != -1 || v.U16(6) != 65535 || v.U16(0) != 32768 {
		t.Error("numbers of two bytes")
	}
	if v.I32(0) != -1<<31 || v.I32(4) != 1<<31-1 || v.I32(8) != -1 || v.U32(8) != 1<<32-1 || v.U32(0) != 1<<31 {
		t.Error("numbers of four bytes")
	}
	if v.U8(0) != 128 || v.U8(5) != 255 {
		t.Error("numbers of one byte")
	}
	if view.Of([]byte{1, 2}).U16(0) != 258 || view.Try(func() { view.Of([]byte{1, 2}).U16(1) }) {
		t.Error("the document's example")
	}
}

// A piece of bytes ends where it ends, though the bytes go on.
func TestPiecesEnd(t *testing.T) {
	v := view.Of(sample).Cut(2, 3)
	if v.Len() != 3 || v.U16(1) != 0xFE80 {
		t.Error("a piece's numbers")
	}
	for i, f := range []func(){func() { v.U8(3) }, func() { v.U16(2) }, func() { v.U32(0) }, func() { v.U8(-1) }, func() { v.Cut(0, 4) }, func() { v.Rest(4) }, func() { v.Rows(1, 3, 1) }} {
		if view.Try(f) {
			t.Error("read beside a piece", i)
		}
	}
}

// P1.4

func TestCut(t *testing.T) {
	v := view.Of(sample)
	for _, at := range numbers(len(sample)) {
		for _, n := range numbers(len(sample)) {
			is := at >= 0 && at <= len(sample) && n >= 0 && n <= len(sample)-at
			var got view.View
			if ok := view.Try(func() { got = v.Cut(at, n) }); ok != is {
				t.Errorf("Cut(%d, %d): %v", at, n, ok)
			} else if ok && !bytes.Equal(got.Bytes(), sample[at:at+n]) {
				t.Errorf("Cut(%d, %d): %x", at, n, got.Bytes())
			}
		}
	}
}

func TestRest(t *testing.T) {
	v := view.Of(sample)
	for _, at := range numbers(len(sample)) {
		is := at >= 0 && at <= len(sample)
		var got view.View
		if ok := view.Try(func() { got = v.Rest(at) }); ok != is {
			t.Errorf("Rest(%d): %v", at, ok)
		} else if ok && !bytes.Equal(got.Bytes(), sample[at:]) {
			t.Errorf("Rest(%d): %x", at, got.Bytes())
		}
	}
}

func TestRows(t *testing.T) {
	v := view.Of(sample)
	for _, at := range numbers(len(sample)) {
		for _, n := range numbers(len(sample)) {
			for _, size := range numbers(len(sample)) {
				is := at >= 0 && at <= len(sample) && n >= 0 && size >= 0
				if is && n > 0 && size > 0 { // so that no product is asked that goes round
					is = n <= len(sample) && size <= len(sample) && n*size <= len(sample)-at
				}
				var got view.View
				if ok := view.Try(func() { got = v.Rows(at, n, size) }); ok != is {
					t.Errorf("Rows(%d, %d, %d): %v", at, n, size, ok)
				} else if ok && !bytes.Equal(got.Bytes(), sample[at:at+n*size]) {
					t.Errorf("Rows(%d, %d, %d): %x", at, n, size, got.Bytes())
				}
			}
		}
	}
}

// Products that go round to one that would be there.
func TestRowsOfGreatProducts(t *testing.T) {
	v := view.Of(sample)
	for _, c := range [][2]int{{1 << 62, 4}, {1 << 32, 1 << 32}, {1 << 63 >> 1, 2}, {math.MaxInt, math.MaxInt}, {math.MinInt, 2}, {-1, -2}, {-1, 0}, {0, -1}, {1<<61 + 1, 8}} {
		if view.Try(func() { v.Rows(0, c[0], c[1]) }) {
			t.Error("Rows", c)
		}
	}
	if !view.Try(func() { v.Rows(10, math.MaxInt, 0); v.Rows(10, 0, math.MaxInt) }) {
		t.Error("Rows of nothing")
	}
}
