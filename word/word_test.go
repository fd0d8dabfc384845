package word

import (
	"math"
	"testing"
)

// words: some of each kind, the edges among them.
var words = []uint64{
	0, 1, 5, 0x1A34, 1 << 31, 1 << 32, 1<<62 - 1, 1 << 63, 1<<63 | 1,
	0x0123456789ABCDEF, 0xFEDCBA9876543210, 0xAAAAAAAAAAAAAAAA, 0x5555555555555555,
	math.MaxInt64, math.MaxUint64 - 1, math.MaxUint64,
}

// wrong: fields that may not be, by each bound, and by numbers whose sum comes round.
var wrong = []Field{
	{}, {At: 3}, {At: 63}, {At: 3, Bits: -1}, {At: -1, Bits: 1}, {At: -1, Bits: 2}, {At: -1, Bits: 64},
	{At: 64, Bits: 1}, {At: 64}, {At: 64, Bits: -1}, {At: 60, Bits: 5}, {At: 63, Bits: 2}, {At: 1, Bits: 64},
	{At: 0, Bits: 65}, {At: 3, Bits: 1 << 62}, {At: 1, Bits: math.MaxInt}, {At: 63, Bits: math.MaxInt},
	{At: math.MaxInt, Bits: 1}, {At: math.MaxInt, Bits: math.MaxInt}, {At: math.MinInt, Bits: 1},
	{At: math.MinInt, Bits: math.MinInt}, {At: 0, Bits: math.MinInt}, {At: math.MaxInt, Bits: math.MinInt},
	{At: math.MinInt, Bits: math.MaxInt}, {At: 1 << 32, Bits: 1}, {At: 0, Bits: 1<<32 + 1},
}

// fields: all that may be.
func fields() []Field {
	var l []Field
	for at := 0; at < 64; at++ {
		for n := 1; at+n <= 64; n++ {
			l = append(l, Field{At: at, Bits: n})
		}
	}
	return l
}

// bit: one bit of a word, as 0 or 1.
func bit(w uint64, i int) uint64 { return w >> uint(i) % 2 }

// slowGet: the field's number, bit by bit.
func slowGet(f Field, w uint64) uint64 {
	var n uint64
	for i := f.Bits - 1; i >= 0; i-- {
		n = n*2 + bit(w, f.At+i)
	}
	return n
}

// slowSigned: as slowGet, but begun below nought by the highest bit.
func slowSigned(f Field, w uint64) int64 {
	n := -int64(bit(w, f.At+f.Bits-1))
	for i := f.Bits - 2; i >= 0; i-- {
		n = n*2 + int64(bit(w, f.At+i))
	}
	return n
}

// P1.1: Right.
func TestRight(t *testing.T) {
	for at := -70; at <= 140; at++ {
		for n := -70; n <= 140; n++ {
			want := at >= 0 && at <= 63 && n >= 1 && at+n <= 64
			if f := (Field{At: at, Bits: n}); f.Right() != want {
				t.Fatalf("Right of %v: %v", f, f.Right())
			}
		}
	}
	for _, f := range wrong {
		if f.Right() {
			t.Errorf("Right of %v, which may not be", f)
		}
	}
}

// P1.1: Get and Signed of all fields that may be.
func TestGetSigned(t *testing.T) {
	for _, f := range fields() {
		for _, w := range words {
			if n := f.Get(w); n != slowGet(f, w) {
				t.Fatalf("Get of %v, %#x: %#x", f, w, n)
			}
			if n := f.Signed(w); n != slowSigned(f, w) {
				t.Fatalf("Signed of %v, %#x: %d", f, w, n)
			}
		}
	}
}

// P1.1: the document's example, and the edges of Signed.
func TestSignedEdges(t *testing.T) {
	f := Field{At: 8, Bits: 4}
	if f.Get(0x1A34) != 10 || f.Signed(0x1A34) != -6 || f.Signed(0x1734) != 7 || f.Signed(0x1834) != -8 {
		t.Error("four bits from 8 on")
	}
	whole := Field{Bits: 64}
	if whole.Signed(1<<63) != math.MinInt64 || whole.Signed(math.MaxUint64) != -1 || whole.Signed(math.MaxInt64) != math.MaxInt64 {
		t.Error("all bits")
	}
	for at := 0; at < 64; at++ {
		if one := (Field{At: at, Bits: 1}); one.Signed(1<<at) != -1 || one.Signed(^(uint64(1)<<at)) != 0 {
			t.Error("one bit", at)
		}
	}
}

// P1.1: Put changes the field's bits alone, and takes just what fits.
func TestPut(t *testing.T) {
	for _, f := range fields() {
		for _, w := range words {
			for _, n := range words {
				got, ok := f.Put(w, n)
				fits := f.Bits == 64 || n < uint64(1)<<f.Bits
				if ok != fits {
					t.Fatalf("Put of %#x into %v: %v", n, f, ok)
				}
				if !ok && got != w {
					t.Fatalf("Put of %#x into %v is refused, and %#x became %#x", n, f, w, got)
				}
				if ok {
					checkPut(t, f, w, n, got)
				}
			}
		}
	}
}

// checkPut: bit by bit, is got the word w with n in the field?
func checkPut(t *testing.T, f Field, w, n, got uint64) {
	t.Helper()
	for i := range 64 {
		want := bit(w, i)
		if i >= f.At && i < f.At+f.Bits {
			want = bit(n, i-f.At)
		}
		if bit(got, i) != want {
			t.Fatalf("Put of %#x into %v of %#x: %#x", n, f, w, got)
		}
	}
}

// P1.1: the greatest number that fits, and the least that doesn't.
func TestPutEdges(t *testing.T) {
	for _, f := range fields() {
		most := uint64(math.MaxUint64)
		if f.Bits < 64 {
			most = 1<<f.Bits - 1
			if w, ok := f.Put(7, most+1); ok || w != 7 {
				t.Fatalf("Put of one too many into %v: %#x, %v", f, w, ok)
			}
		}
		if w, ok := f.Put(0, most); !ok || f.Get(w) != most || f.Signed(w) != -1 {
			t.Fatalf("Put of the greatest into %v: %#x, %v", f, w, ok)
		}
		if w, ok := f.Put(math.MaxUint64, 0); !ok || f.Get(w) != 0 {
			t.Fatalf("Put of 0 into %v: %#x, %v", f, w, ok)
		}
	}
}

// P1.1, P1: fields that may not be.
func TestWrongFields(t *testing.T) {
	for _, f := range wrong {
		for _, w := range words {
			if f.Get(w) != 0 || f.Signed(w) != 0 {
				t.Errorf("Get, Signed of %v, %#x: %#x, %d", f, w, f.Get(w), f.Signed(w))
			}
			for _, n := range words {
				if x, ok := f.Put(w, n); ok || x != w {
					t.Errorf("Put of %#x into %v of %#x: %#x, %v", n, f, w, x, ok)
				}
			}
		}
	}
}

// P1.2: words of Refs, there and back.
func TestRefs(t *testing.T) {
	for _, worker := range []int{0, 1, 3, 127, 128, 255} {
		for _, slot := range []int{0, 1, 2, 128, 255} {
			for _, tag := range []int{0, 1, 7, 65535, 1 << 31, 1<<32 - 1} {
				r := Ref{Worker: worker, Slot: slot, Tag: tag}
				want := uint64(worker) + uint64(slot)*256 + uint64(tag)*65536 + 1<<63
				if w := Of(r); w != want {
					t.Errorf("Of %v: %#x", r, w)
				}
				if x, ok := To(want); !ok || x != r {
					t.Errorf("To of %#x: %v, %v", want, x, ok)
				}
			}
		}
	}
}

// P1.2, P1: Refs one of whose numbers has no room; all else of them would have.
func TestWrongRefs(t *testing.T) {
	far := []int{-1, -256, math.MinInt, math.MinInt + 1, -1 << 32, 1 << 32, 1 << 47, 1 << 62, math.MaxInt}
	for _, n := range far {
		for _, r := range []Ref{{Worker: n}, {Slot: n}, {Tag: n}, {n, n, n}, {n, 1, 1}, {1, n, 1}, {1, 1, n}} {
			if w := Of(r); w != 0 {
				t.Errorf("Of %v: %#x", r, w)
			}
		}
	}
	for _, r := range []Ref{{Worker: 256}, {Slot: 256}, {Worker: 511, Slot: 1}, {Slot: 65535}, {Worker: 1 << 16}} {
		if w := Of(r); w != 0 {
			t.Errorf("Of %v: %#x", r, w)
		}
	}
}

// P1.2: words that are no Ref's: without the bit 63, or with another one.
func TestWrongWords(t *testing.T) {
	right := Of(Ref{Worker: 3, Slot: 1, Tag: 7})
	none := []uint64{0, 1, 5, right ^ 1<<63, 1<<48 - 1, 1<<63 - 1, math.MaxUint64}
	for i := 48; i < 63; i++ {
		none = append(none, 1<<i, 1<<63|1<<i, right|1<<i)
	}
	for _, w := range none {
		if r, ok := To(w); ok || r != (Ref{}) {
			t.Errorf("To of %#x: %v, %v", w, r, ok)
		}
	}
	if r, ok := To(1 << 63); !ok || r != (Ref{}) {
		t.Errorf("To of the zero Ref's word: %v, %v", r, ok)
	}
}

// P1.2: each bit of a Ref's word is of the number that the document says.
func TestRefBits(t *testing.T) {
	for i := range 48 {
		want := Ref{Worker: 1 << i}
		if i >= 16 {
			want = Ref{Tag: 1 << (i - 16)}
		} else if i >= 8 {
			want = Ref{Slot: 1 << (i - 8)}
		}
		if r, ok := To(1<<63 | 1<<i); !ok || r != want {
			t.Errorf("bit %d: %v, %v", i, r, ok)
		}
	}
}
