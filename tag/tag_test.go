package tag

import (
	"math"
	"slices"
	"testing"

	"chandlery/mem"
	"chandlery/word"
)

// wild are numbers that are no worker's, no slot's, and no word's of a memory of some few words.
var wild = []int{math.MinInt, math.MinInt + 1, -1 << 40, -1 << 32, -256, -1, 256, 257, 511, 1 << 16, 1 << 32, 1 << 40, 1 << 62, math.MaxInt - 1, math.MaxInt}

// ref: the word of a Ref that can be.
func ref(t *testing.T, worker, slot, tag int) uint64 {
	t.Helper()
	w := word.Of(word.Ref{Worker: worker, Slot: slot, Tag: tag})
	if w == 0 {
		t.Fatalf("%d, %d, %d is no Ref", worker, slot, tag)
	}
	return w
}

// of: a memory of just these words.
func of(words ...uint64) *mem.Memory {
	m := mem.New(len(words))
	for at, w := range words {
		m.Store(at, w)
	}
	return m
}

// wantTag: Ref is that of the worker and the slot by this tag, and nobody accessed the memory for it.
func wantTag(t *testing.T, m *mem.Memory, s *Scan, worker, slot, tag int) {
	t.Helper()
	ops, want := m.Ops(), word.Ref{Worker: worker, Slot: slot, Tag: tag}
	if got := s.Ref(); got != want {
		t.Errorf("Ref: %v, want %v", got, want)
	}
	if m.Ops() != ops {
		t.Errorf("Ref took %d accesses", m.Ops()-ops)
	}
}

// run: as many steps as there are words, each an access of its own to the next one; then no more.
func run(t *testing.T, m *mem.Memory, s *Scan, at, n int) {
	t.Helper()
	for i := range n {
		ops := m.Ops()
		if got := s.Step(); got != (i == n-1) {
			t.Fatalf("step %d of %d: %v", i+1, n, got)
		}
		if want := (mem.Access{Kind: mem.Loads, At: at + i}); m.Ops() != ops+1 || m.Last() != want {
			t.Fatalf("step %d of %d: %d accesses, the last one %v, want %v", i+1, n, m.Ops()-ops, m.Last(), want)
		}
	}
	ops := m.Ops()
	for range 3 {
		if !s.Step() || m.Ops() != ops {
			t.Fatalf("a step behind all %d: %d accesses", n, m.Ops()-ops)
		}
	}
}

// P7.1, and the chapter's example.
func TestLeast(t *testing.T) {
	for _, c := range []struct {
		used []int
		want int
	}{
		{nil, 0},
		{[]int{}, 0},
		{[]int{0}, 1},
		{[]int{1}, 0},
		{[]int{0, 1, 3}, 2},
		{[]int{3, 1, 0}, 2},
		{[]int{2, 1, 0}, 3},
		{[]int{0, 0, 0, 0}, 1},
		{[]int{1, 0, 1, 0, 2}, 3},
		{[]int{5, 4, 3, 2, 1}, 0},
		{[]int{0, 1, 2, 3, 4, 6, 7}, 5},
	} {
		if got := Least(c.used...); got != c.want {
			t.Errorf("Least(%d): %d, want %d", c.used, got, c.want)
		}
	}
}

// P7.1: numbers below 0, and very large ones, are in nobody's way.
func TestLeastOfWildNumbers(t *testing.T) {
	if got := Least(wild...); got != 0 {
		t.Errorf("Least: %d", got)
	}
	if got := Least(append(slices.Clone(wild), 2, 0, 1)...); got != 3 {
		t.Errorf("Least: %d", got)
	}
	for _, n := range wild {
		if Least(n) != 0 || Least(n, 0) != 1 || Least(0, n, n, 1) != 2 {
			t.Errorf("Least with %d", n)
		}
	}
	if got := Least(-1, -2, -3, 0); got != 1 {
		t.Errorf("Least: %d", got)
	}
}

// P7.1: all rows of up to five numbers from -1 to 5.
func TestLeastOfAllShortRows(t *testing.T) {
	var try func(row []int)
	try = func(row []int) {
		want := 0
		for slices.Contains(row, want) {
			want++
		}
		if got := Least(row...); got != want {
			t.Fatalf("Least(%d): %d, want %d", row, got, want)
		}
		if len(row) == 5 {
			return
		}
		for n := -1; n <= 5; n++ {
			try(append(slices.Clone(row), n))
		}
	}
	try(nil)
}

// P7.1: a long row, from its end on, with one number left out.
func TestLeastOfLongRow(t *testing.T) {
	const n = 100000
	var row []int
	for i := n; i >= 0; i-- {
		if i != n-1 {
			row = append(row, i)
		}
	}
	if got := Least(row...); got != n-1 {
		t.Errorf("Least: %d", got)
	}
	if got := Least(append(row, n-1)...); got != n+1 {
		t.Errorf("Least: %d", got)
	}
}

// P2: Least leaves what it is given, and the room behind it, as it is.
func TestLeastLeavesItsList(t *testing.T) {
	row := []int{3, 0, 1, 0, -7, 9, 8}
	for range 2 {
		if got := Least(row[:5]...); got != 2 {
			t.Errorf("Least: %d", got)
		}
		if !slices.Equal(row, []int{3, 0, 1, 0, -7, 9, 8}) {
			t.Errorf("the list became %d", row)
		}
	}
}

// P7.2: each step looks at one word, and none is looked at ahead.
func TestSteps(t *testing.T) {
	for at := range 6 {
		for n := range 6 {
			m := mem.New(12)
			s := New(m, at, n, 0, 0)
			if m.Ops() != 0 {
				t.Fatalf("New: %d accesses", m.Ops())
			}
			run(t, m, s, at, n)
			if m.Faults() != 0 {
				t.Errorf("from %d on, %d words: %d faults", at, n, m.Faults())
			}
			if i := slices.IndexFunc(m.Words(), func(w uint64) bool { return w != 0 }); i >= 0 {
				t.Errorf("the word %d was changed", i)
			}
		}
	}
}

// P7.2: of a number below 0, as of 0, no word is looked at.
func TestNoWords(t *testing.T) {
	m := of(ref(t, 1, 1, 0), ref(t, 1, 1, 1))
	for _, n := range []int{0, -1, -2, -1 << 32, math.MinInt + 1, math.MinInt} {
		for _, at := range append(slices.Clone(wild), 0, 1, 2) {
			s := New(m, at, n, 1, 1)
			wantTag(t, m, s, 1, 1, 0)
			run(t, m, s, at, 0)
			wantTag(t, m, s, 1, 1, 0)
		}
	}
}

// P7.2, P7.3: words that there aren't are looked at, too, each by an access; none of them is a Ref's.
func TestWordsThatThereArent(t *testing.T) {
	m := of(ref(t, 1, 0, 0), ref(t, 1, 0, 1), ref(t, 1, 0, 2))
	s := New(m, -2, 4, 1, 0)
	run(t, m, s, -2, 4)
	wantTag(t, m, s, 1, 0, 2)
	s = New(m, 2, 4, 1, 0)
	run(t, m, s, 2, 4)
	wantTag(t, m, s, 1, 0, 0)
	if m.Faults() != 2+3 {
		t.Errorf("Faults: %d", m.Faults())
	}
	for _, at := range wild {
		s, faults := New(m, at, 3, 1, 0), m.Faults()
		for i := range 3 {
			if s.Step() != (i == 2) {
				t.Errorf("from %d on, step %d", at, i+1)
			}
		}
		want := 3
		if at == -1 {
			want = 1
			wantTag(t, m, s, 1, 0, 2)
		} else {
			wantTag(t, m, s, 1, 0, 0)
		}
		if m.Faults() != faults+want {
			t.Errorf("from %d on: %d faults", at, m.Faults()-faults)
		}
	}
}

// P7.2, P1: more words than any memory has: each step is one access all the same, and it isn't over.
func TestVeryManyWords(t *testing.T) {
	for _, n := range []int{1 << 32, 1 << 62, math.MaxInt - 1, math.MaxInt} {
		m := of(ref(t, 0, 0, 0), ref(t, 0, 0, 1))
		s, ops := New(m, 0, n, 0, 0), m.Ops()
		for i := range 100 {
			if s.Step() || m.Ops() != ops+i+1 {
				t.Fatalf("%d words: step %d", n, i+1)
			}
		}
		wantTag(t, m, s, 0, 0, 2)
	}
}

// P7.3: Ref at each step hangs on the words so far alone.
func TestRefAtEachStep(t *testing.T) {
	m := of(ref(t, 3, 1, 1), ref(t, 3, 1, 0), ref(t, 3, 0, 2), ref(t, 2, 1, 2), ref(t, 3, 1, 4), ref(t, 3, 1, 2), ref(t, 3, 1, 2), ref(t, 3, 1, 3))
	s := New(m, 0, 8, 3, 1)
	for i, want := range []int{0, 0, 2, 2, 2, 2, 3, 3, 5} {
		wantTag(t, m, s, 3, 1, want)
		if s.Step() != (i >= 7) {
			t.Errorf("step %d", i+1)
		}
	}
	wantTag(t, m, s, 3, 1, 5)
}

// P7.3: only words from at on count, and only n of them.
func TestWordsBesideDontCount(t *testing.T) {
	m := of(ref(t, 0, 1, 0), ref(t, 0, 1, 1), ref(t, 0, 1, 2), ref(t, 0, 1, 3))
	for at := range 4 {
		for n := range 5 - at {
			s := New(m, at, n, 0, 1)
			run(t, m, s, at, n)
			want := 0
			if at == 0 {
				want = n
			}
			wantTag(t, m, s, 0, 1, want)
		}
	}
}

// P7.3: the Worker and the Slot must both be the same.
func TestOthersTagsAreFree(t *testing.T) {
	edges := []int{0, 1, 2, 63, 64, 127, 128, 255}
	for _, worker := range edges {
		for _, slot := range edges {
			m := of(ref(t, worker, slot, 0))
			for _, w := range edges {
				for _, l := range edges {
					s, want := New(m, 0, 1, w, l), 0
					if w == worker && l == slot {
						want = 1
					}
					if !s.Step() {
						t.Fatal("one word: it isn't over")
					}
					wantTag(t, m, s, w, l, want)
				}
			}
		}
	}
}

// P7.3: words that are no Ref's have no tag, however much else of them is as that of one.
func TestWordsOfNoRef(t *testing.T) {
	right := ref(t, 3, 1, 0)
	words := []uint64{0, 1, 3, 3 | 1<<8, right &^ (1 << 63), math.MaxUint64}
	for bit := 48; bit < 63; bit++ {
		words = append(words, right|1<<bit)
	}
	m := of(words...)
	s := New(m, 0, len(words), 3, 1)
	run(t, m, s, 0, len(words))
	wantTag(t, m, s, 3, 1, 0)
	zero := New(of(0, 0, 0), 0, 3, 0, 0)
	for !zero.Step() {
	}
	wantTag(t, m, zero, 0, 0, 0)
}

// P7.3: great tags are in nobody's way, and none is taken for another one.
func TestGreatTags(t *testing.T) {
	m := of(ref(t, 1, 0, 1<<32-1), ref(t, 1, 0, 1<<31), ref(t, 1, 0, 1<<16), ref(t, 1, 0, 1<<8))
	s := New(m, 0, 4, 1, 0)
	run(t, m, s, 0, 4)
	wantTag(t, m, s, 1, 0, 0)
	m.Store(0, ref(t, 1, 0, 0))
	s = New(m, 0, 4, 1, 0)
	run(t, m, s, 0, 4)
	wantTag(t, m, s, 1, 0, 1)
}

// P7.3: a word counts as it was when it was looked at.
func TestWordsThatChange(t *testing.T) {
	m := of(ref(t, 1, 0, 0), 0, 0)
	s := New(m, 0, 3, 1, 0)
	s.Step()
	m.Store(0, ref(t, 1, 0, 1))
	m.Store(1, ref(t, 1, 0, 2))
	wantTag(t, m, s, 1, 0, 1)
	s.Step()
	m.Store(1, 0)
	m.Store(2, ref(t, 1, 0, 1))
	wantTag(t, m, s, 1, 0, 1)
	if !s.Step() {
		t.Error("three words: it isn't over")
	}
	m.Store(2, 0)
	s.Step()
	wantTag(t, m, s, 1, 0, 3)
}

// P7.3, P1: no word is a Ref's of such a worker, or of such a slot.
func TestWildWorkersAndSlots(t *testing.T) {
	m := of(ref(t, 0, 0, 0), ref(t, 255, 255, 0), ref(t, 1, 1, 0), 0)
	for _, n := range wild {
		for _, c := range [][2]int{{n, 0}, {0, n}, {n, n}, {n, 255}, {255, n}, {1, n}, {n, 1}} {
			s := New(m, 0, 4, c[0], c[1])
			run(t, m, s, 0, 4)
			wantTag(t, m, s, c[0], c[1], 0)
		}
	}
}

// P2: Scans share nothing, and may be stepped by turns.
func TestScansLieApart(t *testing.T) {
	m := of(ref(t, 1, 0, 0), ref(t, 1, 0, 1), ref(t, 1, 0, 2))
	a, b, c := New(m, 0, 3, 1, 0), New(m, 0, 3, 1, 0), New(m, 0, 3, 1, 1)
	a.Step()
	a.Step()
	c.Step()
	wantTag(t, m, b, 1, 0, 0)
	b.Step()
	wantTag(t, m, a, 1, 0, 2)
	wantTag(t, m, b, 1, 0, 1)
	wantTag(t, m, c, 1, 1, 0)
	if !a.Step() || b.Step() || c.Step() {
		t.Error("one was stepped by another one's step")
	}
	wantTag(t, m, a, 1, 0, 3)
	wantTag(t, m, b, 1, 0, 2)
}

// P7.2, P7.3: long rows of words of few Refs, and of words that are none's, do what a plain row of Refs does.
func TestLongRows(t *testing.T) {
	seed := uint64(1)
	next := func(n uint64) int {
		seed = seed*6364136223846793005 + 1442695040888963407
		return int(seed >> 33 % n)
	}
	for range 400 {
		m := mem.New(40)
		for at := range 40 {
			if next(4) != 0 {
				m.Store(at, ref(t, next(2), next(2), next(8)))
			}
		}
		at, n, worker, slot := next(60)-10, next(50)-5, next(2), next(2)
		s := New(m, at, n, worker, slot)
		var used []int
		for i := range max(n, 0) {
			if r, ok := word.To(m.Peek(at + i)); ok && r.Worker == worker && r.Slot == slot {
				used = append(used, r.Tag)
			}
			ops := m.Ops()
			if s.Step() != (i == n-1) || m.Ops() != ops+1 {
				t.Fatalf("step %d of %d", i+1, n)
			}
			want := 0
			for slices.Contains(used, want) {
				want++
			}
			wantTag(t, m, s, worker, slot, want)
		}
	}
}

// P1: nil memories and nil Scans: calls end, and nothing panics.
func TestNil(t *testing.T) {
	s := New(nil, 0, 3, 1, 0)
	if s.Step() || s.Step() || !s.Step() || !s.Step() {
		t.Error("three words of a nil memory")
	}
	s.Ref()
	for _, s := range []*Scan{nil, {}} {
		if !s.Step() {
			t.Error("a Scan of no words isn't over")
		}
		s.Ref()
	}
}
