package mask

import (
	"math"
	"slices"
	"testing"
)

// numbers: all near the edges of a set, and far ones.
func numbers() []int {
	l := []int{math.MinInt, math.MinInt + 1, -1 << 32, 1 << 32, 1<<32 + 1, 1 << 62, math.MaxInt - 1, math.MaxInt}
	for n := -130; n <= 260; n++ {
		l = append(l, n)
	}
	return l
}

// sets: the empty one, all, those of one number and of all but one, and others.
func sets() []Mask {
	l := []Mask{
		0, ^Mask(0), 0x2D, 3 << 62, 1<<63 | 1, 0xAAAAAAAAAAAAAAAA, 0x5555555555555555,
		0x0123456789ABCDEF, 0xFEDCBA9876543210, 0xFFFF0000FFFF0000, 0xF0F00FF000FFF00F, 1<<63 - 1,
	}
	for n := range 64 {
		l = append(l, 1<<n, ^Mask(0)^1<<n, ^Mask(0)<<n, ^Mask(0)>>n)
	}
	return l
}

// members: a set's numbers, one by one.
func members(m Mask) []int {
	var l []int
	for n, w := 0, uint64(m); n < 64; n, w = n+1, w/2 {
		if w%2 == 1 {
			l = append(l, n)
		}
	}
	return l
}

// of: the set of some numbers.
func of(l []int) Mask {
	var m uint64
	for n, bit := 0, uint64(1); n < 64; n, bit = n+1, bit*2 {
		if slices.Contains(l, n) {
			m += bit
		}
	}
	return Mask(m)
}

// slowRun: number by number, the first row that is long enough.
func slowRun(m Mask, n int) (int, bool) {
	if n < 1 {
		return 0, false
	}
	long := 0
	for i := range 64 {
		if uint64(m)>>i%2 == 0 {
			long = 0
			continue
		}
		if long++; long == n {
			return i - n + 1, true
		}
	}
	return 0, false
}

// P2.1: Low.
func TestLow(t *testing.T) {
	for _, n := range numbers() {
		var want []int
		for i := 0; i < 64 && i < n; i++ {
			want = append(want, i)
		}
		if m := Low(n); m != of(want) {
			t.Errorf("Low of %d: %#x", n, m)
		}
	}
	if Low(0) != 0 || Low(1) != 1 || Low(63) != 1<<63-1 || Low(64) != ^Mask(0) || Low(65) != ^Mask(0) {
		t.Error("Low at the edges")
	}
}

// P2.1: Has.
func TestHas(t *testing.T) {
	for _, m := range sets() {
		in := members(m)
		for _, n := range numbers() {
			if m.Has(n) != slices.Contains(in, n) {
				t.Fatalf("Has of %#x, %d: %v", m, n, m.Has(n))
			}
		}
	}
}

// P2.1: Count, First and List.
func TestCountFirstList(t *testing.T) {
	for _, m := range sets() {
		in := members(m)
		first := 64
		if len(in) > 0 {
			first = in[0]
		}
		if m.Count() != len(in) || m.First() != first || !slices.Equal(m.List(), in) {
			t.Errorf("%#x: Count %d, First %d, List %v", m, m.Count(), m.First(), m.List())
		}
	}
	if none := Mask(0); none.Count() != 0 || none.First() != 64 || len(none.List()) != 0 {
		t.Error("the empty set")
	}
}

// P2: each List is new memory.
func TestListIsNew(t *testing.T) {
	m := Low(5)
	l := m.List()
	for i := range l {
		l[i] = 99
	}
	l = append(l, 98)
	if !slices.Equal(m.List(), []int{0, 1, 2, 3, 4}) {
		t.Error("a List that was changed is seen in the next one", m.List())
	}
}

// P2.2: With and Without.
func TestWithWithout(t *testing.T) {
	for _, m := range sets() {
		in := members(m)
		for _, n := range numbers() {
			with, without := m, m
			if n >= 0 && n <= 63 {
				with = of(append(slices.Clone(in), n))
				without = of(slices.DeleteFunc(slices.Clone(in), func(x int) bool { return x == n }))
			}
			if m.With(n) != with || m.Without(n) != without {
				t.Fatalf("%#x, %d: With %#x, Without %#x", m, n, m.With(n), m.Without(n))
			}
		}
	}
}

// P2.2: Least.
func TestLeast(t *testing.T) {
	for _, m := range sets() {
		in := members(m)
		for _, n := range numbers() {
			want := of(in[:max(0, min(n, len(in)))])
			if got := m.Least(n); got != want {
				t.Fatalf("Least of %#x, %d: %#x", m, n, got)
			}
		}
	}
	if m := Mask(0x2D); m.Least(2) != 5 || m.Least(0) != 0 || m.Least(4) != m || m.Least(5) != m || m.Least(-1) != 0 {
		t.Error("Least of 0, 2, 3, 5")
	}
}

// P2.3: Run.
func TestRun(t *testing.T) {
	for _, m := range sets() {
		for _, n := range numbers() {
			at, ok := slowRun(m, n)
			if a, o := m.Run(n); a != at || o != ok {
				t.Fatalf("Run of %#x, %d: %d, %v", m, n, a, o)
			}
		}
	}
}

// P2.3: rows of each length at each place, with a gap on both sides and a shorter one ahead.
func TestRunEverywhere(t *testing.T) {
	for n := 1; n <= 64; n++ {
		for at := 0; at+n <= 64; at++ {
			m := Low(n) << at
			if at >= n+1 {
				m |= Low(n - 1)
			}
			if a, ok := m.Run(n); !ok || a != at {
				t.Fatalf("Run of %#x, %d: %d, %v", m, n, a, ok)
			}
			if a, ok := m.Run(n + 1); ok || a != 0 {
				t.Fatalf("Run of %#x, %d: %d, %v", m, n+1, a, ok)
			}
		}
	}
}

// P2.3: the document's example, the empty set, all numbers, and lengths that there can't be.
func TestRunEdges(t *testing.T) {
	if at, ok := Mask(0x2D).Run(2); !ok || at != 2 {
		t.Error("Run of 2 of 0, 2, 3, 5:", at, ok)
	}
	if at, ok := Low(64).Run(64); !ok || at != 0 {
		t.Error("Run of all:", at, ok)
	}
	for _, n := range []int{math.MinInt, -64, -1, 0, 65, 128, math.MaxInt} {
		if at, ok := Low(64).Run(n); ok || at != 0 {
			t.Error("Run of", n, at, ok)
		}
	}
	for n := -1; n <= 65; n++ {
		if at, ok := Mask(0).Run(n); ok || at != 0 {
			t.Error("Run of the empty set", n, at, ok)
		}
	}
}
