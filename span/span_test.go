package span

import (
	"math"
	"slices"
	"testing"

	"chandlery/api"
)

// wild are numbers that are no interval's At, and no interval's Len.
var wild = []int{math.MinInt, math.MinInt + 1, -Far - 1, -Far, -1 << 32, -16, -1, Far + 1, 2 * Far, 1 << 62, math.MaxInt - Far, math.MaxInt - 1, math.MaxInt}

// of: a Map with these, all of which can be put.
func of(t *testing.T, list ...api.Interval) *Map {
	t.Helper()
	m := &Map{}
	for _, i := range list {
		if !m.Put(i) {
			t.Fatalf("Put(%v): false", i)
		}
	}
	return m
}

// want: the Map has just these, by rising At.
func want(t *testing.T, m *Map, list ...api.Interval) {
	t.Helper()
	if got := m.All(); !slices.Equal(got, list) {
		t.Errorf("All: %v, want %v", got, list)
	}
	bytes := 0
	for _, i := range list {
		bytes += i.Len
		if got, ok := m.Get(i.At); got != i || !ok {
			t.Errorf("Get(%d): %v, %v, want %v", i.At, got, ok, i)
		}
	}
	if got := m.Bytes(); got != bytes {
		t.Errorf("Bytes: %d, want %d", got, bytes)
	}
}

// three: with a gap of 16 behind the first one, and none behind the second one.
func three() []api.Interval {
	return []api.Interval{{At: 16, Len: 16}, {At: 48, Len: 4}, {At: 52, Len: 100}}
}

// P6.1, P6.2: the zero one has none.
func TestZeroMap(t *testing.T) {
	var m Map
	want(t, &m)
	for _, at := range append(slices.Clone(wild), 0, 1, Far) {
		if got, ok := m.Get(at); got != (api.Interval{}) || ok {
			t.Errorf("Get(%d): %v, %v", at, got, ok)
		}
		if got, ok := m.Drop(at); got != (api.Interval{}) || ok {
			t.Errorf("Drop(%d): %v, %v", at, got, ok)
		}
	}
	for _, at := range []int{-Far, -1, 0, 1, Far} {
		for _, n := range append(slices.Clone(wild), 0, 1, Far) {
			if m.Over(api.Interval{At: at, Len: n}) {
				t.Errorf("Over(%d, %d)", at, n)
			}
		}
	}
	want(t, &m)
}

// P6.1: the chapter's example.
func TestExample(t *testing.T) {
	var m Map
	if !m.Put(api.Interval{At: 16, Len: 16}) || m.Put(api.Interval{At: 31, Len: 4}) {
		t.Error("Put")
	}
	want(t, &m, api.Interval{At: 16, Len: 16})
}

// P6.1: from one to another one, around each edge of what there is.
func TestOverByHand(t *testing.T) {
	m := of(t, three()...)
	for _, c := range []struct {
		at, len int
		over    bool
	}{
		{0, 16, false}, {0, 17, true}, {15, 1, false}, {15, 2, true},
		{16, 1, true}, {16, 16, true}, {20, 2, true}, {31, 1, true},
		{32, 1, false}, {32, 16, false}, {32, 17, true}, {47, 1, false}, {47, 2, true},
		{48, 4, true}, {51, 1, true}, {51, 2, true}, {52, 1, true}, {151, 1, true},
		{152, 1, false}, {152, Far, false}, {Far, 1, false},
		{0, 1000, true}, {17, 40, true}, {-16, 32, false}, {-16, 33, true}, {-Far, Far + 16, false}, {-Far, Far + 17, true},
	} {
		if got := m.Over(api.Interval{At: c.at, Len: c.len}); got != c.over {
			t.Errorf("Over(%d, %d): %v", c.at, c.len, got)
		}
	}
	want(t, m, three()...)
}

// P6.1: no address is in one whose Len is below 1, wherever it lies.
func TestOverOfNoAddress(t *testing.T) {
	m := of(t, append(three(), api.Interval{At: Far, Len: Far})...)
	for _, at := range []int{-Far, -1, 0, 15, 16, 17, 31, 32, 48, 51, 52, 100, Far, Far - 1} {
		for _, n := range []int{0, -1, -16, -Far, math.MinInt + 1, math.MinInt} {
			if m.Over(api.Interval{At: at, Len: n}) {
				t.Errorf("Over(%d, %d)", at, n)
			}
		}
	}
}

// P6.1: a Len may be as great as numbers are: it doesn't come round.
func TestOverOfVeryGreatLens(t *testing.T) {
	m := of(t, api.Interval{At: 16, Len: 16}, api.Interval{At: Far, Len: Far})
	for _, n := range []int{2*Far + 1, 1 << 62, math.MaxInt - Far, math.MaxInt - 1, math.MaxInt} {
		for _, at := range []int{-Far, -1, 0, 1, 16, 31, 32, Far - 1, Far} {
			if !m.Over(api.Interval{At: at, Len: n}) {
				t.Errorf("Over(%d, %d): false", at, n)
			}
		}
	}
	low := of(t, api.Interval{At: 16, Len: 16})
	for _, at := range []int{32, 33, Far} {
		if low.Over(api.Interval{At: at, Len: math.MaxInt}) {
			t.Errorf("Over(%d, most)", at)
		}
	}
}

// P6.1: the edges of At and of Len, each by itself and together.
func TestPutAtTheEdges(t *testing.T) {
	if Far != 1099511627776 {
		t.Errorf("Far: %d", Far)
	}
	ats := append(slices.Clone(wild), 0, 1, Far-1, Far)
	lens := append(slices.Clone(ats), 2)
	for _, at := range ats {
		for _, n := range lens {
			var m Map
			i := api.Interval{At: at, Len: n}
			may := at >= 0 && at <= Far && n >= 1 && n <= Far
			if got := m.Put(i); got != may {
				t.Errorf("Put(%v): %v", i, got)
			}
			if may {
				want(t, &m, i)
			} else {
				want(t, &m)
			}
		}
	}
}

// P6.1: what is refused leaves nothing behind.
func TestPutThatIsRefused(t *testing.T) {
	m := of(t, three()...)
	for _, i := range []api.Interval{
		{At: 16, Len: 16}, {At: 16, Len: 1}, {At: 16, Len: 17}, {At: 31, Len: 4}, {At: 0, Len: 99}, {At: 0, Len: Far}, {At: 51, Len: 1}, {At: 151, Len: 1},
		{At: 40}, {At: 40, Len: -1}, {At: -1, Len: 1}, {At: -1, Len: 2}, {At: 200, Len: Far + 1}, {At: Far + 1, Len: 1}, {At: math.MinInt, Len: math.MinInt}, {At: math.MaxInt, Len: math.MaxInt},
	} {
		if m.Put(i) {
			t.Errorf("Put(%v): true", i)
		}
		want(t, m, three()...)
	}
}

// P6.1: intervals may touch, ahead of one, behind it, and between two.
func TestPutBesideOthers(t *testing.T) {
	m := of(t, three()...)
	for _, i := range []api.Interval{{At: 0, Len: 16}, {At: 32, Len: 16}, {At: 152, Len: 1}, {At: Far, Len: Far}, {At: 153, Len: Far - 153}} {
		if !m.Put(i) {
			t.Errorf("Put(%v): false", i)
		}
	}
	want(t, m,
		api.Interval{At: 0, Len: 16}, api.Interval{At: 16, Len: 16}, api.Interval{At: 32, Len: 16}, api.Interval{At: 48, Len: 4},
		api.Interval{At: 52, Len: 100}, api.Interval{At: 152, Len: 1}, api.Interval{At: 153, Len: Far - 153}, api.Interval{At: Far, Len: Far})
	if m.Bytes() != 2*Far {
		t.Errorf("Bytes: %d", m.Bytes())
	}
}

// P6.2: Get asks where one begins, not where one is.
func TestGetOfNone(t *testing.T) {
	m := of(t, three()...)
	for _, at := range append(slices.Clone(wild), 0, 15, 17, 31, 32, 47, 49, 51, 53, 151, 152, Far) {
		if got, ok := m.Get(at); got != (api.Interval{}) || ok {
			t.Errorf("Get(%d): %v, %v", at, got, ok)
		}
		if got, ok := m.Drop(at); got != (api.Interval{}) || ok {
			t.Errorf("Drop(%d): %v, %v", at, got, ok)
		}
	}
	want(t, m, three()...)
}

// P6.2: each one of three goes, is gone, and comes back.
func TestDrop(t *testing.T) {
	for n, i := range three() {
		m := of(t, three()...)
		if got, ok := m.Drop(i.At); got != i || !ok {
			t.Errorf("Drop(%d): %v, %v", i.At, got, ok)
		}
		want(t, m, slices.Delete(three(), n, n+1)...)
		if got, ok := m.Get(i.At); got != (api.Interval{}) || ok {
			t.Errorf("Get(%d): %v, %v", i.At, got, ok)
		}
		if got, ok := m.Drop(i.At); got != (api.Interval{}) || ok {
			t.Errorf("Drop(%d), once more: %v, %v", i.At, got, ok)
		}
		if m.Over(i) || !m.Put(i) || !m.Over(i) {
			t.Errorf("%v can't come back", i)
		}
		want(t, m, three()...)
	}
}

// P6.2: in whatever order they come, All is rising.
func TestAllIsRising(t *testing.T) {
	a := three()
	for _, order := range [][3]int{{0, 1, 2}, {0, 2, 1}, {1, 0, 2}, {1, 2, 0}, {2, 0, 1}, {2, 1, 0}} {
		want(t, of(t, a[order[0]], a[order[1]], a[order[2]]), a...)
	}
}

// P6.2, P2: what All answers is the caller's own.
func TestAllIsNewMemory(t *testing.T) {
	m := of(t, three()...)
	a, b := m.All(), m.All()
	a[0] = api.Interval{At: 7, Len: 7}
	a = append(a, api.Interval{At: 8, Len: 8})
	if !slices.Equal(b, three()) || len(a) != 4 {
		t.Errorf("another answer: %v", b)
	}
	want(t, m, three()...)
	m.Drop(16)
	m.Put(api.Interval{At: 0, Len: 5})
	if !slices.Equal(b, three()) {
		t.Errorf("an answer changed: %v", b)
	}
}

// P2: Maps share nothing.
func TestMapsLieApart(t *testing.T) {
	a, b := of(t, three()...), of(t, three()...)
	a.Drop(16)
	b.Put(api.Interval{At: 0, Len: 2})
	want(t, a, three()[1:]...)
	want(t, b, append([]api.Interval{{At: 0, Len: 2}}, three()...)...)
}

// plainMap: what is at each of some few addresses: how far behind the beginning of an interval, from 1 on; 0: nothing.
type plainMap struct {
	at   [40]int
	lens map[int]int
}

func (p *plainMap) over(i api.Interval) bool {
	for n, x := range p.at {
		if x != 0 && n >= i.At && n < i.At+i.Len {
			return true
		}
	}
	return false
}

func (p *plainMap) set(i api.Interval, there bool) {
	delete(p.lens, i.At)
	if there {
		p.lens[i.At] = i.Len
	}
	for n := range i.Len {
		p.at[i.At+n] = 0
		if there {
			p.at[i.At+n] = n + 1
		}
	}
}

func (p *plainMap) all() []api.Interval {
	list := []api.Interval{}
	for n, x := range p.at {
		if x == 1 {
			list = append(list, api.Interval{At: n, Len: p.lens[n]})
		}
	}
	return list
}

// P6.1, P6.2: long rows of calls of all kinds do what a plain row of addresses does.
func TestLongRows(t *testing.T) {
	m, p := &Map{}, &plainMap{lens: map[int]int{}}
	seed := uint64(1)
	next := func(n uint64) int {
		seed = seed*6364136223846793005 + 1442695040888963407
		return int(seed >> 33 % n)
	}
	for range 20000 {
		i := api.Interval{At: next(36) - 3, Len: next(9) - 2}
		if got := m.Over(i); got != p.over(i) {
			t.Fatalf("Over(%v): %v; %v", i, got, p.all())
		}
		was, there := p.lens[i.At]
		had := api.Interval{}
		if there {
			had = api.Interval{At: i.At, Len: was}
		}
		if got, ok := m.Get(i.At); got != had || ok != there {
			t.Fatalf("Get(%d): %v, %v; %v", i.At, got, ok, p.all())
		}
		if next(3) == 0 {
			if got, ok := m.Drop(i.At); got != had || ok != there {
				t.Fatalf("Drop(%d): %v, %v; %v", i.At, got, ok, p.all())
			}
			if there {
				p.set(had, false)
			}
		} else {
			may := i.At >= 0 && i.Len >= 1 && !p.over(i)
			if got := m.Put(i); got != may {
				t.Fatalf("Put(%v): %v; %v", i, got, p.all())
			}
			if may {
				p.set(i, true)
			}
		}
		want(t, m, p.all()...)
	}
}

// P6.1, P6.2: many intervals, put from the outside to the midst, and dropped from both sides.
func TestManyIntervals(t *testing.T) {
	const many = 4096
	m := &Map{}
	for n := range many {
		k := n / 2
		if n%2 == 1 {
			k = many - 1 - n/2
		}
		if !m.Put(api.Interval{At: 16 * k, Len: 16}) {
			t.Fatalf("Put at %d: false", 16*k)
		}
	}
	if m.Bytes() != 16*many || len(m.All()) != many {
		t.Errorf("%d bytes in %d", m.Bytes(), len(m.All()))
	}
	for k := range many {
		if k%3 != 0 {
			m.Drop(16 * k)
		}
	}
	for k := range many {
		if got := m.Over(api.Interval{At: 16*k + 15, Len: 1}); got != (k%3 == 0) {
			t.Fatalf("Over at %d: %v", 16*k+15, got)
		}
	}
}

// P1: where nothing is promised, calls end, and none panics.
func TestAnyNumbers(t *testing.T) {
	m := of(t, api.Interval{At: 0, Len: 1}, api.Interval{At: 16, Len: 16}, api.Interval{At: Far, Len: Far})
	all := m.All()
	for _, at := range wild {
		for _, n := range append(slices.Clone(wild), 0, 1, Far) {
			m.Over(api.Interval{At: at, Len: n})
			if m.Put(api.Interval{At: at, Len: n}) {
				t.Errorf("Put(%d, %d): true", at, n)
			}
		}
	}
	want(t, m, all...)
}

// P1: a nil Map has none, takes none, and nothing panics.
func TestNilMap(t *testing.T) {
	var m *Map
	for _, at := range append(slices.Clone(wild), 0, 1, Far) {
		i := api.Interval{At: at, Len: 1}
		if m.Over(i) || m.Put(i) {
			t.Errorf("there is something at %d", at)
		}
		if got, ok := m.Get(at); got != (api.Interval{}) || ok {
			t.Errorf("Get(%d): %v, %v", at, got, ok)
		}
		if got, ok := m.Drop(at); got != (api.Interval{}) || ok {
			t.Errorf("Drop(%d): %v, %v", at, got, ok)
		}
	}
	want(t, m)
}
