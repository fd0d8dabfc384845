package slot

import (
	"math"
	"slices"
	"testing"

	"chandlery/mem"
)

// most is the greatest word, far the greatest number of which a Frame promises something.
const (
	most = math.MaxUint64
	far  = 1 << 20
)

// wild are numbers that are no word's of a memory of some few words, and no number of a Frame's.
var wild = []int{math.MinInt, math.MinInt + 1, -1 << 40, -1 << 32, -64, -1, far + 1, 1 << 32, 1 << 40, 1 << 62, math.MaxInt - 1, math.MaxInt}

// frames: small ones, and great ones, the edges of each number among them.
func frames() []Frame {
	var l []Frame
	for _, base := range []int{0, 1, 10, far} {
		for _, words := range []int{0, 1, 2, 1001, far} {
			for _, workers := range []int{0, 1, 2, 3, 64} {
				l = append(l, Frame{Base: base, Words: words, Workers: workers})
			}
		}
	}
	return l
}

// P8.1, P8.2, and the chapter's example.
func TestFrame(t *testing.T) {
	f := Frame{Base: 10, Words: 1, Workers: 2}
	for _, c := range []struct {
		what      string
		got, want int
	}{
		{"Record", f.Record(), 7},
		{"Size", f.Size(), 37},
		{"Head", f.Head(), 10},
		{"Held(0)", f.Held(0), 11},
		{"Held(1)", f.Held(1), 12},
		{"Asked(0)", f.Asked(0), 13},
		{"Asked(1)", f.Asked(1), 14},
		{"A(0)", f.A(0), 15},
		{"A(1)", f.A(1), 16},
		{"B(0)", f.B(0), 17},
		{"B(1)", f.B(1), 18},
		{"At(0, 0)", f.At(0, 0), 19},
		{"At(0, 1)", f.At(0, 1), 26},
		{"At(1, 0)", f.At(1, 0), 33},
		{"At(1, 1)", f.At(1, 1), 40},
		{"Done(0)", f.Done(0), 1},
		{"Answer(0)", f.Answer(0), 2},
		{"Done(1)", f.Done(1), 4},
		{"Answer(1)", f.Answer(1), 5},
	} {
		if c.got != c.want {
			t.Errorf("%s: %d, want %d", c.what, c.got, c.want)
		}
	}
}

// P8.1: the words are gone through one behind the other, from Base on, to the last one.
func TestHallsWords(t *testing.T) {
	for _, f := range frames() {
		next := f.Base
		is := func(what string, at, long int) {
			t.Helper()
			if at != next {
				t.Fatalf("%v: %s: %d, want %d", f, what, at, next)
			}
			next += long
		}
		is("Head", f.Head(), 1)
		for w := range f.Workers {
			is("Held", f.Held(w), 1)
		}
		for w := range f.Workers {
			is("Asked", f.Asked(w), 1)
		}
		for w := range f.Workers {
			is("A", f.A(w), 1)
		}
		for w := range f.Workers {
			is("B", f.B(w), 1)
		}
		for w := range f.Workers {
			is("the slot 0", f.At(w, 0), f.Record())
			is("the slot 1", f.At(w, 1), f.Record())
		}
		if f.Size() != next-f.Base {
			t.Fatalf("%v: Size: %d, want %d", f, f.Size(), next-f.Base)
		}
	}
}

// P8.2: a record's words are gone through, the object's first, to the last one.
func TestRecordsWords(t *testing.T) {
	for _, f := range frames() {
		next := f.Words
		for w := range f.Workers {
			if f.Done(w) != next || f.Answer(w) != next+1 {
				t.Fatalf("%v: worker %d: Done %d, Answer %d, want %d, %d", f, w, f.Done(w), f.Answer(w), next, next+1)
			}
			next += 3
		}
		if f.Record() != next {
			t.Fatalf("%v: Record: %d, want %d", f, f.Record(), next)
		}
	}
}

// P8.1, P8.2: the greatest Frame of which something is promised.
func TestGreatestFrame(t *testing.T) {
	f := Frame{Base: far, Words: far, Workers: far}
	record := 4 * far
	if f.Record() != record || f.Size() != 1+4*far+2*far*record {
		t.Errorf("Record %d, Size %d", f.Record(), f.Size())
	}
	w := far - 1
	if f.Head() != far || f.Held(w) != 2*far || f.Asked(w) != 3*far || f.A(w) != 4*far || f.B(w) != 5*far {
		t.Errorf("the last worker: %d, %d, %d, %d", f.Held(w), f.Asked(w), f.A(w), f.B(w))
	}
	if f.At(0, 0) != 5*far+1 || f.At(w, 1)+record != f.Base+f.Size() {
		t.Errorf("records: from %d on, the last one at %d", f.At(0, 0), f.At(w, 1))
	}
	if f.Done(w) != record-3 || f.Answer(w) != record-2 {
		t.Errorf("Done %d, Answer %d", f.Done(w), f.Answer(w))
	}
}

// P8.1, P8.2: where a hall lies hangs on Base by nothing but a shift; what a record is doesn't at all.
func TestBaseShifts(t *testing.T) {
	for _, f := range frames() {
		g := f
		g.Base = 0
		if f.Record() != g.Record() || f.Size() != g.Size() || f.Done(3) != g.Done(3) || f.Answer(3) != g.Answer(3) {
			t.Errorf("%v: Record %d, Size %d", f, f.Record(), f.Size())
		}
		if f.Head() != g.Head()+f.Base || f.At(0, 1) != g.At(0, 1)+f.Base {
			t.Errorf("%v: Head %d, At %d", f, f.Head(), f.At(0, 1))
		}
	}
}

// P1: Frames, workers and slots of which nothing is promised: calls end, and nothing panics.
func TestWildFrames(t *testing.T) {
	for _, n := range wild {
		for _, f := range []Frame{{}, {Base: n}, {Words: n}, {Workers: n}, {n, n, n}, {Base: n, Words: 1, Workers: 2}, {Base: 10, Words: 1, Workers: 2}} {
			f.Record()
			f.Size()
			f.Head()
			for _, w := range append(slices.Clone(wild), 0, 1, 2) {
				f.Held(w)
				f.Asked(w)
				f.A(w)
				f.B(w)
				f.Done(w)
				f.Answer(w)
				f.At(w, n)
				f.At(w, 2)
			}
		}
	}
}

// filled: a memory of six words.
func filled() *mem.Memory {
	m := mem.New(6)
	for at, x := range six() {
		m.Store(at, x)
	}
	return m
}

// six words, no two of which are alike.
func six() []uint64 { return []uint64{7, 0, most, 1 << 63, 5, 1} }

// wantStep: one step, that answers so, and is just this access.
func wantStep(t *testing.T, m *mem.Memory, step func() bool, over bool, access mem.Access) {
	t.Helper()
	ops := m.Ops()
	if got := step(); got != over {
		t.Errorf("Step: %v, want %v", got, over)
	}
	if m.Ops() != ops+1 || m.Last() != access {
		t.Errorf("Step: %d accesses, the last one %v, want %v", m.Ops()-ops, m.Last(), access)
	}
}

// wantOver: it is over, and steps do nothing any more.
func wantOver(t *testing.T, m *mem.Memory, step func() bool) {
	t.Helper()
	ops, words := m.Ops(), m.Words()
	for range 3 {
		if !step() {
			t.Error("Step behind all: false")
		}
	}
	if m.Ops() != ops || !slices.Equal(m.Words(), words) {
		t.Errorf("Step behind all: %d accesses", m.Ops()-ops)
	}
}

// wantCopied: it has copied just these, and nobody accessed the memory to tell.
func wantCopied(t *testing.T, m *mem.Memory, c *Copier, want ...uint64) {
	t.Helper()
	ops := m.Ops()
	if got := c.Words(); !slices.Equal(got, want) {
		t.Errorf("Words: %d, want %d", got, want)
	}
	if m.Ops() != ops {
		t.Errorf("Words took %d accesses", m.Ops()-ops)
	}
}

// P8.3: all pieces of a memory.
func TestCopy(t *testing.T) {
	for at := range 7 {
		for n := range 7 - at {
			m := filled()
			c := Copy(m, at, n)
			wantCopied(t, m, c)
			for i := range n {
				wantStep(t, m, c.Step, i == n-1, mem.Access{Kind: mem.Loads, At: at + i})
				wantCopied(t, m, c, six()[at:at+i+1]...)
			}
			wantOver(t, m, c.Step)
			wantCopied(t, m, c, six()[at:at+n]...)
			if m.Ops() != 6+n || m.Faults() != 0 || !slices.Equal(m.Words(), six()) {
				t.Errorf("from %d on, %d words: %d accesses, %d faults, then %d", at, n, m.Ops()-6, m.Faults(), m.Words())
			}
		}
	}
}

// P8.3: of a number below 0, as of 0, no word is copied.
func TestCopyNone(t *testing.T) {
	m := filled()
	for _, n := range []int{0, -1, -2, -1 << 32, math.MinInt + 1, math.MinInt} {
		for _, at := range append(slices.Clone(wild), 0, 5, 6) {
			c := Copy(m, at, n)
			wantOver(t, m, c.Step)
			wantCopied(t, m, c)
		}
	}
	if m.Ops() != 6 {
		t.Errorf("%d accesses", m.Ops()-6)
	}
}

// P8.3: words that there aren't are copied as layer 3 tells them: by an access, as 0.
func TestCopyWordsThatThereArent(t *testing.T) {
	m := filled()
	c := Copy(m, -1, 2)
	wantStep(t, m, c.Step, false, mem.Access{Kind: mem.Loads, At: -1})
	wantStep(t, m, c.Step, true, mem.Access{Kind: mem.Loads, At: 0})
	wantCopied(t, m, c, 0, 7)
	c = Copy(m, 5, 3)
	wantStep(t, m, c.Step, false, mem.Access{Kind: mem.Loads, At: 5})
	wantStep(t, m, c.Step, false, mem.Access{Kind: mem.Loads, At: 6})
	wantStep(t, m, c.Step, true, mem.Access{Kind: mem.Loads, At: 7})
	wantOver(t, m, c.Step)
	wantCopied(t, m, c, 1, 0, 0)
	if m.Faults() != 3 {
		t.Errorf("Faults: %d", m.Faults())
	}
	for _, at := range wild {
		c := Copy(m, at, 2)
		wantStep(t, m, c.Step, false, mem.Access{Kind: mem.Loads, At: at})
		if !c.Step() {
			t.Errorf("from %d on, two words: it isn't over", at)
		}
		if at != -1 {
			wantCopied(t, m, c, 0, 0)
		}
	}
}

// P8.3, P1: more words than any memory has: each step is one access all the same, and it isn't over.
func TestCopyVeryMany(t *testing.T) {
	for _, n := range []int{1 << 32, 1 << 62, math.MaxInt - 1, math.MaxInt} {
		m := filled()
		c := Copy(m, 0, n)
		for i := range 100 {
			wantStep(t, m, c.Step, false, mem.Access{Kind: mem.Loads, At: i})
		}
		wantCopied(t, m, c, append(six(), make([]uint64, 94)...)...)
	}
}

// P8.3: a word is copied as it is at its own step.
func TestCopyOfWordsThatChange(t *testing.T) {
	m := filled()
	c := Copy(m, 0, 2)
	m.Store(0, 30)
	c.Step()
	m.Store(0, 31)
	m.Store(1, 32)
	wantCopied(t, m, c, 30)
	c.Step()
	m.Store(1, 33)
	c.Step()
	wantCopied(t, m, c, 30, 32)
}

// P8.3, P2: what Words answers is the caller's own, with the room behind it.
func TestWordsAreNewMemory(t *testing.T) {
	m := filled()
	c := Copy(m, 2, 4)
	for range 3 {
		c.Step()
	}
	a, b := c.Words(), c.Words()
	for i := range a {
		a[i] = 100
	}
	if a = append(a, 100, 100); len(a) != 5 || !slices.Equal(b, six()[2:5]) {
		t.Errorf("another answer: %d", b)
	}
	wantCopied(t, m, c, six()[2:5]...)
	b = append(b, 200)
	c.Step()
	if b[3] != 200 {
		t.Errorf("an answer was written into: %d", b)
	}
	wantCopied(t, m, c, six()[2:]...)
	if !slices.Equal(m.Words(), six()) {
		t.Errorf("the memory: %d", m.Words())
	}
}

// P8.3: words of all lengths, from each place on.
func TestLay(t *testing.T) {
	words := []uint64{most, 9, 0, 1 << 62, 11, 12}
	for at := range 7 {
		for n := range 7 - at {
			m, want := filled(), six()
			l := Lay(m, at, words[:n])
			for i := range n {
				want[at+i] = words[i]
				wantStep(t, m, l.Step, i == n-1, mem.Access{Kind: mem.Stores, At: at + i})
				if !slices.Equal(m.Words(), want) {
					t.Fatalf("from %d on, %d words, step %d: %d, want %d", at, n, i+1, m.Words(), want)
				}
			}
			wantOver(t, m, l.Step)
			if m.Ops() != 6+n || m.Faults() != 0 {
				t.Errorf("from %d on, %d words: %d accesses, %d faults", at, n, m.Ops()-6, m.Faults())
			}
		}
	}
}

// P8.3: of no words none is laid.
func TestLayNone(t *testing.T) {
	m := filled()
	for _, at := range append(slices.Clone(wild), 0, 5, 6) {
		for _, words := range [][]uint64{nil, {}, six()[:0]} {
			wantOver(t, m, Lay(m, at, words).Step)
		}
	}
	if m.Ops() != 6 || !slices.Equal(m.Words(), six()) {
		t.Errorf("%d accesses, then %d", m.Ops()-6, m.Words())
	}
}

// P8.3: words that there aren't are laid as layer 3 does it: by an access that changes nothing.
func TestLayOnWordsThatThereArent(t *testing.T) {
	m := filled()
	l := Lay(m, -1, []uint64{20, 21})
	wantStep(t, m, l.Step, false, mem.Access{Kind: mem.Stores, At: -1})
	wantStep(t, m, l.Step, true, mem.Access{Kind: mem.Stores, At: 0})
	l = Lay(m, 5, []uint64{22, 23, 24})
	wantStep(t, m, l.Step, false, mem.Access{Kind: mem.Stores, At: 5})
	wantStep(t, m, l.Step, false, mem.Access{Kind: mem.Stores, At: 6})
	wantStep(t, m, l.Step, true, mem.Access{Kind: mem.Stores, At: 7})
	wantOver(t, m, l.Step)
	want := []uint64{21, 0, most, 1 << 63, 5, 22}
	if m.Faults() != 3 || !slices.Equal(m.Words(), want) {
		t.Errorf("%d faults, then %d, want %d", m.Faults(), m.Words(), want)
	}
	for _, at := range wild {
		l := Lay(m, at, []uint64{25})
		wantStep(t, m, l.Step, true, mem.Access{Kind: mem.Stores, At: at})
		wantOver(t, m, l.Step)
	}
	if !slices.Equal(m.Words(), want) {
		t.Errorf("then %d, want %d", m.Words(), want)
	}
}

// P8.3, P2: the words that are handed in are neither kept nor changed, nor is the room behind them.
func TestLayKeepsNothing(t *testing.T) {
	m := filled()
	all := []uint64{30, 31, 32, 33}
	l := Lay(m, 0, all[:3])
	l.Step()
	if !slices.Equal(all, []uint64{30, 31, 32, 33}) {
		t.Errorf("the words became %d", all)
	}
	for i := range all {
		all[i] = 99
	}
	for !l.Step() {
	}
	if want := []uint64{30, 31, 32, 1 << 63, 5, 1}; !slices.Equal(m.Words(), want) {
		t.Errorf("then %d, want %d", m.Words(), want)
	}
	if !slices.Equal(all, []uint64{99, 99, 99, 99}) {
		t.Errorf("the words became %d", all)
	}
}

// P2: machines share nothing, and may be stepped by turns.
func TestMachinesLieApart(t *testing.T) {
	m := filled()
	a, b := Copy(m, 0, 3), Copy(m, 1, 3)
	l, k := Lay(m, 0, []uint64{40, 41}), Lay(m, 2, []uint64{42, 43, 44})
	if a.Step() || l.Step() || a.Step() || k.Step() || b.Step() || !l.Step() || !a.Step() || b.Step() {
		t.Error("one was stepped by another one's step")
	}
	wantCopied(t, m, a, 7, 0, 42)
	wantCopied(t, m, b, 0, 42)
	if want := []uint64{40, 41, 42, 1 << 63, 5, 1}; !slices.Equal(m.Words(), want) {
		t.Errorf("then %d, want %d", m.Words(), want)
	}
	if k.Step() || !b.Step() || !k.Step() {
		t.Error("one was stepped by another one's step")
	}
	wantCopied(t, m, b, 0, 42, 43)
}

// P8.1, P8.3: all records of a hall are laid, and copied from where they lie; they lie apart, and the words ahead of them stay.
func TestRecordsLieApart(t *testing.T) {
	f := Frame{Base: 5, Words: 4, Workers: 3}
	m := mem.New(f.Base + f.Size())
	record := func(w, slot int) []uint64 {
		words := make([]uint64, f.Record())
		for i := range words {
			words[i] = uint64(1000*(slots*w+slot) + i + 1)
		}
		return words
	}
	for w := range f.Workers {
		for slot := range slots {
			l := Lay(m, f.At(w, slot), record(w, slot))
			for !l.Step() {
			}
		}
	}
	for w := range f.Workers {
		for slot := range slots {
			c := Copy(m, f.At(w, slot), f.Record())
			for !c.Step() {
			}
			wantCopied(t, m, c, record(w, slot)...)
		}
	}
	for at, x := range m.Words() {
		if (x == 0) != (at < f.At(0, 0)) {
			t.Errorf("the word %d: %d", at, x)
		}
	}
	if n := 2 * 2 * f.Workers * f.Record(); m.Ops() != n || m.Faults() != 0 {
		t.Errorf("%d accesses, %d faults, want %d and none", m.Ops(), m.Faults(), n)
	}
}

// P1: nil memories and nil machines: calls end, and nothing panics.
func TestNil(t *testing.T) {
	if c := Copy(nil, 0, 2); c.Step() || !c.Step() || !c.Step() {
		t.Error("two words of a nil memory")
	}
	if l := Lay(nil, 0, []uint64{1, 2}); l.Step() || !l.Step() || !l.Step() {
		t.Error("two words, to a nil memory")
	}
	for _, c := range []*Copier{nil, {}} {
		if !c.Step() || len(c.Words()) != 0 {
			t.Error("a Copier of no words isn't over")
		}
	}
	for _, l := range []*Layer{nil, {}} {
		if !l.Step() {
			t.Error("a Layer of no words isn't over")
		}
	}
}
