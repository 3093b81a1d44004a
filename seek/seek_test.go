package seek_test

import (
	"bytes"
	"encoding/binary"
	"math"
	"math/bits"
	"math/rand"
	"slices"
	"testing"

	"swash/api"
	"swash/seek"
	"swash/view"
)

// words: each one's two bytes.
func words(l ...int) []byte {
	var b []byte
	for _, n := range l {
		b = binary.BigEndian.AppendUint16(b, uint16(n))
	}
	return b
}

// header: one of so many rows of so many bytes; its other numbers are none that could be right.
func header(size, n int) []byte { return words(size, n, 0x1234, 0xFFFF, 0x8001) }

// counted: so many bytes, no two neighbours alike, none 0xFF.
func counted(n int) []byte {
	b := make([]byte, n)
	for i := range b {
		b[i] = byte(i % 251)
	}
	return b
}

// take: the rows' bytes; false: it throws.
func take(b []byte, at, need, keys int) (out [][]byte, ok bool) {
	var rows []view.View
	ok = view.Try(func() { rows = seek.Take(view.Of(b), at, need, keys) })
	for _, r := range rows {
		out = append(out, r.Bytes())
	}
	return out, ok
}

func taken(t *testing.T, what string, b []byte, at, need, keys int, want [][]byte) {
	t.Helper()
	if got, ok := take(b, at, need, keys); !ok || !slices.EqualFunc(got, want, bytes.Equal) {
		t.Errorf("Take of %s: %x, %v, not %x", what, got, ok, want)
	}
	if got, e := seek.Read(b, at, need, keys); e != api.OK || !slices.EqualFunc(got, want, bytes.Equal) {
		t.Errorf("Read of %s: %x, %v, not %x", what, got, e, want)
	}
}

func refused(t *testing.T, what string, b []byte, at, need, keys int) {
	t.Helper()
	if got, ok := take(b, at, need, keys); ok || len(got) > 0 {
		t.Errorf("Take of %s: %x, %v", what, got, ok)
	}
	if got, e := seek.Read(b, at, need, keys); e != api.ErrForm || len(got) > 0 {
		t.Errorf("Read of %s: %x, %v", what, got, e)
	}
}

// P5.1

func TestRowsInOrder(t *testing.T) {
	for size := 2; size < 9; size++ {
		for n := range 7 {
			rows := counted(size * n)
			want := slices.Collect(slices.Chunk(rows, size))
			for at := range 4 {
				b := slices.Concat(counted(at), header(size, n), rows)
				taken(t, "rows", b, at, 2, 1, want)
				taken(t, "rows with bytes behind", append(b, 9, 9, 9), at, 2, 1, want)
			}
		}
	}
}

// A row may have more bytes than it needs, none fewer.
func TestNeed(t *testing.T) {
	for size := range 12 {
		b := append(header(size, 2), counted(2*size)...)
		for need := 2; need < 14; need++ {
			if need <= size {
				taken(t, "rows of bytes enough", b, 0, need, 1, [][]byte{b[10 : 10+size], b[10+size:]})
			} else {
				refused(t, "rows of too few bytes", b, 0, need, 1)
			}
		}
	}
}

// Rows of too few bytes are none such, though there be no rows at all.
func TestNeedOfNoRows(t *testing.T) {
	taken(t, "no rows of four bytes", header(4, 0), 0, 4, 2, nil)
	refused(t, "no rows of three bytes", header(3, 0), 0, 4, 2)
	refused(t, "noughts", make([]byte, 10), 0, 2, 1)
}

func TestBytesThatLack(t *testing.T) {
	for _, ahead := range []int{0, 5} {
		b := slices.Concat(counted(ahead), header(4, 3), counted(12))
		taken(t, "all bytes", b, ahead, 4, 2, slices.Collect(slices.Chunk(b[ahead+10:], 4)))
		for n := range b {
			refused(t, "less than all bytes", b[:n], ahead, 4, 2)
		}
	}
	refused(t, "rows far beside the bytes", append(header(0xFFFF, 0xFFFF), counted(99)...), 0, 2, 1)
	refused(t, "one row beside the bytes", append(header(4, 4), counted(15)...), 0, 4, 2)
}

// A last row that isn't one has all its bytes, too.
func TestEndThatLacksBytes(t *testing.T) {
	b := append(header(6, 2), words(1, 2, 3, 0xFFFF, 0xFFFF, 0)...)
	taken(t, "an end", b, 0, 6, 2, [][]byte{words(1, 2, 3)})
	refused(t, "an end without its last byte", b[:21], 0, 6, 2)
	refused(t, "an end of which the keys are there alone", b[:20], 0, 6, 2)
}

func TestPlaces(t *testing.T) {
	b := append(header(2, 1), 3, 4)
	taken(t, "rows at 0", b, 0, 2, 1, [][]byte{{3, 4}})
	for _, at := range []int{math.MinInt, -1 << 32, -11, -10, -1, 1, 2, 11, 12, 13, 1 << 32, math.MaxInt - 10, math.MaxInt - 9, math.MaxInt} {
		refused(t, "another place", b, at, 2, 1)
	}
	refused(t, "no bytes", nil, 0, 2, 1)
}

// Of so many keys all must be 0xFFFF in the last row, and that alone, for it to be none.
func TestEnd(t *testing.T) {
	for keys := 1; keys < 5; keys++ {
		size := 2*keys + 2
		one := counted(size)
		end := append(bytes.Repeat([]byte{0xFF}, 2*keys), 7, 8)
		two := append(header(size, 2), one...)
		taken(t, "an end", append(bytes.Clone(two), end...), 0, 2*keys, keys, [][]byte{one})
		taken(t, "an end alone", append(header(size, 1), end...), 0, size, keys, nil)
		taken(t, "two ends", slices.Concat(header(size, 2), end, end), 0, size, keys, [][]byte{end})
		taken(t, "an end ahead of a row", slices.Concat(header(size, 2), end, one), 0, size, keys, [][]byte{end, one})
		for i := range 2 * keys {
			for _, x := range []byte{0, 0x7F, 0xFE} {
				other := bytes.Clone(end)
				other[i] = x
				taken(t, "a row that is nearly an end", append(bytes.Clone(two), other...), 0, size, keys, [][]byte{one, other})
			}
		}
	}
}

// What stands behind the keys doesn't make a row an end, nor keep it from being one.
func TestKeysAlone(t *testing.T) {
	b := append(header(6, 2), words(0xFFFF, 0xFFFF, 0xFFFF, 0xFFFF, 0xFFFF, 5)...)
	one, two := b[10:16], b[16:]
	taken(t, "one key", b, 0, 6, 1, [][]byte{one})
	taken(t, "two keys", b, 0, 6, 2, [][]byte{one})
	taken(t, "three keys", b, 0, 6, 3, [][]byte{one, two})
}

// Bytes behind the rows are none of the last one's keys.
func TestEndWithinTheRows(t *testing.T) {
	b := append(header(4, 1), words(0xFFFF, 1, 0xFFFF, 0xFFFF, 0xFFFF)...)
	taken(t, "a row with an end behind", b, 0, 4, 2, [][]byte{b[10:14]})
}

func TestManyRows(t *testing.T) {
	rows := make([]byte, 0)
	for i := range 65535 {
		rows = append(rows, words(i, i^5)...)
	}
	b := append(header(4, 65535), rows...)
	taken(t, "as many rows as can be", b, 0, 4, 1, slices.Collect(slices.Chunk(rows, 4)))
	refused(t, "as many without the last byte", b[:len(b)-1], 0, 4, 1)
	wide := append(header(65535, 2), counted(2*65535)...)
	taken(t, "rows as wide as can be", wide, 0, 65535, 32767, [][]byte{wide[10:65545], wide[65545:]})
}

// P5.2

func TestArguments(t *testing.T) {
	good := append(header(8, 1), counted(8)...)
	far := []int{math.MinInt, math.MinInt + 1, -1 << 62, -2, -1, 1 << 31, 1 << 32, 1 << 62, 1<<62 + 1, math.MaxInt/2 + 1, math.MaxInt - 1, math.MaxInt}
	for i := range 12 {
		far = append(far, i)
	}
	for _, need := range far {
		for _, keys := range far {
			is := need >= 2 && keys >= 1 && uint64(need) >= 2*uint64(keys) // twice keys goes round in int alone
			want := api.ErrArg
			if is && need <= 8 {
				want = api.OK
			} else if is {
				want = api.ErrForm
			}
			if got, e := seek.Read(good, 0, need, keys); e != want || (len(got) == 1) != (want == api.OK) {
				t.Errorf("Read of need %d, keys %d: %x, %v, not %v", need, keys, got, e, want)
			}
			if want == api.OK {
				want = api.ErrForm
			}
			if _, e := seek.Read(nil, -1, need, keys); e != want {
				t.Errorf("Read of nothing, need %d, keys %d: %v, not %v", need, keys, e, want)
			}
		}
	}
}

// Take ends at all arguments, and when it panics it throws.
func TestTakeOfAnyArguments(t *testing.T) {
	far := []int{math.MinInt, -1 << 32, -3, -2, -1, 0, 1, 2, 3, 4, 9, 1 << 32, math.MaxInt/2 + 1, math.MaxInt}
	for _, b := range [][]byte{nil, header(0, 0), header(0, 65535), header(1, 1), append(header(4, 2), 255, 255, 255, 255, 255, 255, 255, 255)} {
		for _, at := range far {
			for _, need := range far {
				for _, keys := range far {
					take(b, at, need, keys)
				}
			}
		}
	}
}

func TestReadAsTake(t *testing.T) {
	r := rand.New(rand.NewSource(1))
	fine := 0
	for range 30000 {
		b := append(header(r.Intn(9), r.Intn(5)), make([]byte, r.Intn(30))...)
		for i := 10; i < len(b); i++ {
			b[i] = byte(-r.Intn(2))
		}
		at, keys := 0, 1+r.Intn(3)
		if r.Intn(9) == 0 {
			at = r.Intn(20) - 5
		}
		need := 2*keys + r.Intn(3)
		want, ok := model(b, at, need, keys)
		if !ok {
			refused(t, "any bytes", b, at, need, keys)
			continue
		}
		fine++
		taken(t, "any bytes", b, at, need, keys, want)
	}
	if fine < 1000 {
		t.Error("few were rows", fine)
	}
}

// model: what the document says, in another way.
func model(b []byte, at, need, keys int) ([][]byte, bool) {
	if at < 0 || at+10 > len(b) {
		return nil, false
	}
	size, n := int(binary.BigEndian.Uint16(b[at:])), int(binary.BigEndian.Uint16(b[at+2:]))
	if size < need || at+10+size*n > len(b) {
		return nil, false
	}
	rows := slices.Collect(slices.Chunk(b[at+10:at+10+size*n], size))
	if n > 0 && bytes.Count(rows[n-1][:2*keys], []byte{0xFF}) == 2*keys {
		rows = rows[:n-1]
	}
	return rows, true
}

func TestReadIsNewMemory(t *testing.T) {
	b := append(header(4, 3), counted(12)...)
	was := bytes.Clone(b)
	one, _ := seek.Read(b, 0, 4, 2)
	other, _ := seek.Read(b, 0, 4, 2)
	for i := range one {
		clear(one[i][:cap(one[i])])
	}
	_ = append(other[0], 9, 9, 9, 9, 9, 9, 9, 9)
	if !bytes.Equal(b, was) {
		t.Error("the bytes were changed")
	}
	clear(b)
	if !bytes.Equal(slices.Concat(other...), was[10:]) {
		t.Errorf("an answer hangs on the bytes, or on another answer: %x", other)
	}
}

func TestTakeChangesNothing(t *testing.T) {
	b := append(header(4, 3), counted(12)...)
	b = append(b, 1, 2, 3)
	was := bytes.Clone(b)
	rows := seek.Take(view.Of(b[:22]), 0, 4, 2)
	_ = append(rows[:1], view.View{})
	if again := seek.Take(view.Of(b[:22]), 0, 4, 2); !bytes.Equal(b, was) || len(again) != 3 || again[1].Len() != 4 {
		t.Error("something was changed")
	}
	if view.Try(func() { rows[0].U8(4) }) {
		t.Error("a row goes on behind its end")
	}
}

// P5.3

func TestFirst(t *testing.T) {
	for n := range 140 {
		for want := range n + 1 {
			asked := 0
			got := seek.First(n, func(i int) bool {
				asked++
				if i < 0 || i >= n {
					t.Fatalf("First of %d asks for %d", n, i)
				}
				return i >= want
			})
			if got != want || asked > bits.Len(uint(n)) {
				t.Errorf("First of %d, from %d on: %d, asked %d times", n, want, got, asked)
			}
		}
	}
}

func TestFirstOfMany(t *testing.T) {
	for _, n := range []int{1 << 16, 1<<31 - 1, 1 << 31, 1<<32 + 1, 1 << 62, math.MaxInt - 1, math.MaxInt} {
		for _, want := range []int{0, 1, 2, 1 << 15, n/2 - 1, n / 2, n/2 + 1, n - 2, n - 1, n} {
			asked := 0
			got := seek.First(n, func(i int) bool {
				asked++
				return i >= want
			})
			if got != want || asked > bits.Len(uint(n)) {
				t.Errorf("First of %d, from %d on: %d, asked %d times", n, want, got, asked)
			}
		}
	}
}

// What holds here and there, of numbers that are none, and without a function: it ends.
func TestFirstEnds(t *testing.T) {
	r := rand.New(rand.NewSource(2))
	for n := range 200 {
		seek.First(n, func(int) bool { return r.Intn(2) == 0 })
		seek.First(n, func(i int) bool { return i%2 == 0 })
	}
	for _, n := range []int{-1, -2, math.MinInt} {
		seek.First(n, func(int) bool { return true })
		seek.First(n, func(int) bool { return false })
		seek.First(n, nil)
	}
	if seek.First(7, nil) != 7 || seek.First(0, nil) != 0 {
		t.Error("First of no function")
	}
}

func TestPlace(t *testing.T) {
	if i, ok := seek.Place([]int{2, 5, 9}, 5); i != 1 || !ok {
		t.Error("the document's example", i, ok)
	}
	for n := range 40 {
		var l []int
		for i := range n {
			l = append(l, 3*i-30)
		}
		was := slices.Clone(l)
		for x := -35; x < 100; x++ {
			want := slices.Index(was, x)
			if i, ok := seek.Place(l, x); ok != (want >= 0) || i != max(want, 0) {
				t.Errorf("Place of %d in %v: %d, %v", x, l, i, ok)
			}
		}
		if !slices.Equal(l, was) {
			t.Error("the list was changed")
		}
	}
}

func TestPlaceAtTheEdges(t *testing.T) {
	l := []int{math.MinInt, -1, 0, 1 << 32, math.MaxInt}
	for i, x := range l {
		if got, ok := seek.Place(l, x); got != i || !ok {
			t.Errorf("Place of %d: %d, %v", x, got, ok)
		}
	}
	for _, x := range []int{math.MinInt + 1, -2, 1, 1<<32 - 1, 1<<32 + 1, math.MaxInt - 1} {
		if got, ok := seek.Place(l, x); got != 0 || ok {
			t.Errorf("Place of %d: %d, %v", x, got, ok)
		}
	}
	if got, ok := seek.Place(nil, 0); got != 0 || ok {
		t.Error("Place in no list", got, ok)
	}
}

func TestPlaceInAnyList(t *testing.T) {
	r := rand.New(rand.NewSource(3))
	for range 2000 {
		l := make([]int, r.Intn(9))
		for i := range l {
			l[i] = r.Intn(7)
		}
		seek.Place(l, r.Intn(9)-1)
	}
}
