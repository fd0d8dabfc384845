package mem

import (
	"math"
	"slices"
	"testing"
)

// most is the greatest word.
const most = math.MaxUint64

// far are numbers of words that no memory of some few words has.
var far = []int{-1, -2, -64, math.MinInt, math.MinInt + 1, 4, 5, 64, MaxWords - 1, MaxWords, 1 << 32, 1 << 40, math.MaxInt - 1, math.MaxInt}

// filled: a memory of four words, and how many accesses that took.
func filled() (*Memory, int) {
	m := New(4)
	for i, x := range []uint64{7, 0, most, 1 << 63} {
		m.Store(i, x)
	}
	return m, 4
}

// wantWords: the memory has just these words.
func wantWords(t *testing.T, m *Memory, want ...uint64) {
	t.Helper()
	if got := m.Words(); !slices.Equal(got, want) {
		t.Errorf("Words: %d, want %d", got, want)
	}
	for at, x := range want {
		if got := m.Peek(at); got != x {
			t.Errorf("Peek(%d): %d, want %d", at, got, x)
		}
	}
}

// wantTally: so many accesses and faults, and such a last one.
func wantTally(t *testing.T, m *Memory, ops, faults int, last Access) {
	t.Helper()
	if m.Ops() != ops || m.Faults() != faults || m.Last() != last {
		t.Errorf("Ops %d, Faults %d, Last %v; want %d, %d, %v", m.Ops(), m.Faults(), m.Last(), ops, faults, last)
	}
}

// P3.1.
func TestNew(t *testing.T) {
	for _, n := range []int{0, 1, 2, 3, 63, 64, 1000} {
		m := New(n)
		if m.Len() != n {
			t.Errorf("New(%d).Len: %d", n, m.Len())
		}
		wantWords(t, m, make([]uint64, n)...)
		wantTally(t, m, 0, 0, Access{})
	}
}

// P3.1: numbers below 0 are as 0, those above MaxWords as MaxWords.
func TestNewAtTheEdges(t *testing.T) {
	if MaxWords != 16777216 {
		t.Errorf("MaxWords: %d", MaxWords)
	}
	for _, n := range []int{-1, -2, -MaxWords, math.MinInt + 1, math.MinInt} {
		m := New(n)
		if m.Len() != 0 || len(m.Words()) != 0 {
			t.Errorf("New(%d): %d words", n, m.Len())
		}
	}
	for n, want := range map[int]int{
		MaxWords - 1:    MaxWords - 1,
		MaxWords:        MaxWords,
		MaxWords + 1:    MaxWords,
		1 << 32:         MaxWords,
		1<<63 - 1<<24:   MaxWords,
		math.MaxInt - 1: MaxWords,
		math.MaxInt:     MaxWords,
	} {
		if m := New(n); m.Len() != want {
			t.Errorf("New(%d).Len: %d, want %d", n, m.Len(), want)
		}
	}
}

// P3.1, P3.2: of the most words that may be, the last one is there, and the one behind it isn't.
func TestGreatestMemory(t *testing.T) {
	m := New(math.MaxInt)
	m.Store(MaxWords-1, 9)
	m.Store(MaxWords, 8)
	wantTally(t, m, 2, 1, Access{Kind: Stores, At: MaxWords})
	words := m.Words()
	if len(words) != MaxWords || words[MaxWords-1] != 9 || m.Peek(MaxWords-1) != 9 || m.Peek(MaxWords) != 0 {
		t.Errorf("the last word: %d of %d", m.Peek(MaxWords-1), len(words))
	}
	words[MaxWords-1] = 0
	if i := slices.IndexFunc(words, func(x uint64) bool { return x != 0 }); i >= 0 {
		t.Errorf("the word %d is %d", i, words[i])
	}
}

// P3.2.
func TestLoad(t *testing.T) {
	m, n := filled()
	for at, want := range []uint64{7, 0, most, 1 << 63} {
		if got := m.Load(at); got != want {
			t.Errorf("Load(%d): %d, want %d", at, got, want)
		}
		n++
		wantTally(t, m, n, 0, Access{Kind: Loads, At: at})
	}
	wantWords(t, m, 7, 0, most, 1<<63)
}

// P3.2.
func TestStore(t *testing.T) {
	m, n := filled()
	m.Store(0, 3)
	wantTally(t, m, n+1, 0, Access{Kind: Stores, At: 0})
	wantWords(t, m, 3, 0, most, 1<<63)
	m.Store(3, most)
	wantTally(t, m, n+2, 0, Access{Kind: Stores, At: 3})
	wantWords(t, m, 3, 0, most, most)
	m.Store(2, 0)
	wantWords(t, m, 3, 0, 0, most)
}

// P3.2.
func TestSwap(t *testing.T) {
	m, n := filled()
	if got := m.Swap(2, 5); got != most {
		t.Errorf("Swap: %d", got)
	}
	wantTally(t, m, n+1, 0, Access{Kind: Swaps, At: 2})
	wantWords(t, m, 7, 0, 5, 1<<63)
	if got := m.Swap(2, 5); got != 5 {
		t.Errorf("Swap: %d", got)
	}
	if got := m.Swap(2, most); got != 5 {
		t.Errorf("Swap: %d", got)
	}
	wantWords(t, m, 7, 0, most, 1<<63)
}

// P3.2, and the chapter's example.
func TestSwing(t *testing.T) {
	m, n := filled()
	m.Store(0, 5)
	if !m.Swing(0, 5, 7) {
		t.Error("Swing from 5 to 7: false")
	}
	wantTally(t, m, n+2, 0, Access{Kind: Swings, At: 0})
	wantWords(t, m, 7, 0, most, 1<<63)
	if m.Swing(0, 5, 7) {
		t.Error("Swing from 5 to 7, once more: true")
	}
	wantTally(t, m, n+3, 0, Access{Kind: Swings, At: 0})
	if m.Swing(0, 5, 9) {
		t.Error("Swing from 5 to 9: true")
	}
	wantWords(t, m, 7, 0, most, 1<<63)
}

// P3.2: all 64 bits are held against what the word should be.
func TestSwingHoldsWholeWords(t *testing.T) {
	for bit := range 64 {
		m := New(2)
		x := uint64(1) << bit
		if m.Swing(1, x, 1) || m.Peek(1) != 0 {
			t.Errorf("Swing of 0, held to be %#x", x)
		}
		if !m.Swing(1, 0, x) || m.Peek(1) != x {
			t.Errorf("Swing of 0 to %#x: %#x", x, m.Peek(1))
		}
		if !m.Swing(1, x, x) || m.Peek(1) != x {
			t.Errorf("Swing of %#x to itself: %#x", x, m.Peek(1))
		}
		wantWords(t, m, 0, x)
	}
}

// P3.2: additions go round at 2^64.
func TestAdd(t *testing.T) {
	for _, c := range []struct{ was, n, is uint64 }{
		{0, 0, 0},
		{0, 1, 1},
		{7, 5, 12},
		{most, 0, most},
		{most, 1, 0},
		{most, 2, 1},
		{1, most, 0},
		{2, most, 1},
		{0, most, most},
		{most, most, most - 1},
		{1 << 63, 1 << 63, 0},
		{1<<63 - 1, 1, 1 << 63},
		{1<<32 - 1, 1, 1 << 32},
	} {
		m := New(3)
		m.Store(1, c.was)
		if got := m.Add(1, c.n); got != c.was {
			t.Errorf("Add of %d to %d: %d", c.n, c.was, got)
		}
		wantTally(t, m, 2, 0, Access{Kind: Adds, At: 1})
		wantWords(t, m, 0, c.is, 0)
	}
}

// P3.2, P3.3: an access to a word that there isn't changes no word, answers 0 or false, and is an access and a fault.
func TestWordsThatThereArent(t *testing.T) {
	for _, at := range far {
		m, n := filled()
		if got := m.Load(at); got != 0 {
			t.Errorf("Load(%d): %d", at, got)
		}
		wantTally(t, m, n+1, 1, Access{Kind: Loads, At: at})
		m.Store(at, 5)
		wantTally(t, m, n+2, 2, Access{Kind: Stores, At: at})
		if got := m.Swap(at, 5); got != 0 {
			t.Errorf("Swap(%d): %d", at, got)
		}
		wantTally(t, m, n+3, 3, Access{Kind: Swaps, At: at})
		if m.Swing(at, 0, 5) {
			t.Errorf("Swing(%d): true", at)
		}
		wantTally(t, m, n+4, 4, Access{Kind: Swings, At: at})
		if got := m.Add(at, 5); got != 0 {
			t.Errorf("Add(%d): %d", at, got)
		}
		wantTally(t, m, n+5, 5, Access{Kind: Adds, At: at})
		if got := m.Peek(at); got != 0 {
			t.Errorf("Peek(%d): %d", at, got)
		}
		wantTally(t, m, n+5, 5, Access{Kind: Adds, At: at})
		wantWords(t, m, 7, 0, most, 1<<63)
	}
}

// P3.2, P3.3: of no words, all accesses are faults.
func TestNoWords(t *testing.T) {
	m := New(0)
	for i, at := range append(slices.Clone(far), 0, 1, 2, 3) {
		m.Add(at, 1)
		if m.Swap(at, 2) != 0 || m.Load(at) != 0 || m.Peek(at) != 0 {
			t.Errorf("there is a word %d", at)
		}
		wantTally(t, m, 3*i+3, 3*i+3, Access{Kind: Loads, At: at})
	}
	if m.Len() != 0 || len(m.Words()) != 0 {
		t.Errorf("Len: %d", m.Len())
	}
}

// P3.3: kinds are five numbers, from 1 on, so that none of them is the zero access's.
func TestKinds(t *testing.T) {
	if Loads != 1 || Stores != 2 || Swaps != 3 || Swings != 4 || Adds != 5 {
		t.Error("kinds", Loads, Stores, Swaps, Swings, Adds)
	}
}

// P3.3: an access to the word 0 that answers 0 is one, too, and a Swing that stays where it was.
func TestLastOfAccessesThatChangeNothing(t *testing.T) {
	m := New(1)
	m.Load(0)
	wantTally(t, m, 1, 0, Access{Kind: Loads, At: 0})
	m.Swing(0, 1, 2)
	wantTally(t, m, 2, 0, Access{Kind: Swings, At: 0})
	m.Add(0, 0)
	wantTally(t, m, 3, 0, Access{Kind: Adds, At: 0})
}

// P3.4: who looks from outside leaves no trace.
func TestLookingFromOutside(t *testing.T) {
	m, n := filled()
	m.Swap(-3, 1)
	for range 3 {
		m.Peek(0)
		m.Peek(3)
		m.Peek(4)
		m.Peek(-1)
		m.Words()
		m.Len()
		wantTally(t, m, n+1, 1, Access{Kind: Swaps, At: -3})
	}
}

// P3.4, P2: what Words answers is the caller's own.
func TestWordsAreNewMemory(t *testing.T) {
	m, _ := filled()
	a, b := m.Words(), m.Words()
	for i := range a {
		a[i] = 100
	}
	a = append(a[:0], 1, 2, 3, 4, 5, 6)
	if !slices.Equal(b, []uint64{7, 0, most, 1 << 63}) || len(a) != 6 {
		t.Errorf("another answer: %d", b)
	}
	wantWords(t, m, 7, 0, most, 1<<63)
	m.Store(0, 8)
	if b[0] != 7 {
		t.Errorf("an answer changed: %d", b)
	}
}

// P2: memories share nothing.
func TestMemoriesLieApart(t *testing.T) {
	a, b := New(2), New(2)
	a.Store(0, 1)
	b.Store(1, 2)
	b.Load(9)
	wantWords(t, a, 1, 0)
	wantWords(t, b, 0, 2)
	wantTally(t, a, 1, 0, Access{Kind: Stores, At: 0})
	wantTally(t, b, 2, 1, Access{Kind: Loads, At: 9})
}

// P3.2, P3.3, P3.4: long rows of accesses of all kinds do what a plain map of words does.
func TestLongRows(t *testing.T) {
	const size = 6
	m := New(size)
	words := map[int]uint64{}
	ops, faults, seed := 0, 0, uint64(1)
	next := func(n uint64) uint64 {
		seed = seed*6364136223846793005 + 1442695040888963407
		return seed >> 33 % n
	}
	for range 20000 {
		kind, at := int(next(5))+1, int(next(size+4))-2
		x, old := next(4)-2, next(4)-2
		there := at >= 0 && at < size
		was, is := words[at], words[at]
		swung := false
		switch kind {
		case Stores, Swaps:
			is = x
		case Swings:
			swung = there && was == old
			if swung {
				is = x
			}
		case Adds:
			is += x
		}
		got, did := uint64(0), false
		switch kind {
		case Loads:
			got = m.Load(at)
		case Stores:
			m.Store(at, x)
			was = 0
		case Swaps:
			got = m.Swap(at, x)
		case Swings:
			did = m.Swing(at, old, x)
			was = 0
		case Adds:
			got = m.Add(at, x)
		}
		ops++
		if there {
			words[at] = is
		} else {
			faults++
		}
		if got != was || did != swung || m.Peek(at) != words[at] {
			t.Fatalf("kind %d at %d: %d, %v, then %d; want %d, %v, then %d", kind, at, got, did, m.Peek(at), was, swung, words[at])
		}
		wantTally(t, m, ops, faults, Access{Kind: kind, At: at})
		for i, w := range m.Words() {
			if w != words[i] {
				t.Fatalf("the word %d: %d, want %d", i, w, words[i])
			}
		}
	}
}

// P1: a nil memory, and a zero one, have no words, and nothing panics.
func TestNilMemory(t *testing.T) {
	for _, m := range []*Memory{nil, {}} {
		for _, at := range append(slices.Clone(far), 0, 1) {
			m.Store(at, 1)
			if m.Load(at) != 0 || m.Swap(at, 1) != 0 || m.Swing(at, 0, 1) || m.Add(at, 1) != 0 || m.Peek(at) != 0 {
				t.Errorf("there is a word %d", at)
			}
		}
		m.Ops()
		m.Faults()
		m.Last()
		if m.Len() != 0 || len(m.Words()) != 0 {
			t.Errorf("Len: %d", m.Len())
		}
	}
}
