package live

import (
	"math"
	"slices"
	"testing"

	"chandlery/api"
	"chandlery/conf"
	"chandlery/mem"
)

// first is the first address of all.
const first = 65536

// wild are numbers that are no class's, run's or address's.
var wild = []int{math.MinInt, math.MinInt + 1, math.MinInt + first, -1 << 40, -1 << 32, -first, -1024, -65, -16, -2, 1<<32 - 1, 1 << 32, 1<<32 + first, 1 << 40, 1 << 56, math.MaxInt - first, math.MaxInt - 15, math.MaxInt - 1, math.MaxInt}

// system: a Config that may be.
func system(supers int, classes ...int) api.Config {
	return api.Config{Workers: 1, Supers: supers, Batch: 1, Classes: classes}
}

// systems: few and many superblocks and classes.
func systems(t *testing.T) []api.Config {
	t.Helper()
	all := []int{}
	for n := range conf.MaxClasses {
		all = append(all, 32*(n+1))
	}
	list := []api.Config{
		system(1, 16),
		system(1, 512),
		system(2, 16, 64),
		system(3, 48, 80, 336, 496),
		system(7, all...),
		system(64, all...),
	}
	for _, c := range list {
		if conf.Check(c) != api.OK {
			t.Fatalf("%v may not be", c)
		}
	}
	return list
}

// things: all that may be, of a Config.
func things(c api.Config) []Thing {
	var l []Thing
	for class := range c.Classes {
		l = append(l, Thing{Class: class})
	}
	for n := 1; n <= c.Supers; n++ {
		l = append(l, Thing{Class: -1, Run: n})
	}
	return l
}

// bytes: how many a thing that may be has.
func bytes(c api.Config, x Thing) int {
	if x.Class == -1 {
		return 1024 * x.Run
	}
	return c.Classes[x.Class]
}

// dice: numbers by a rule, the same in every run.
func dice(seed uint64) func(n int) int {
	return func(n int) int {
		seed = seed*6364136223846793005 + 1442695040888963407
		return int(seed >> 33 % uint64(n))
	}
}

// P13.1: which Things these are; two are compared by ==.
func TestOfAndRun(t *testing.T) {
	for _, n := range append(slices.Clone(wild), 0, 1, 2, 15, 16, 64) {
		if got := Of(n); got != (Thing{Class: n}) {
			t.Errorf("Of(%d): %v", n, got)
		}
		if got := Run(n); got != (Thing{Class: -1, Run: n}) {
			t.Errorf("Run(%d): %v", n, got)
		}
	}
	if Of(1) == Of(0) || Of(1) == Run(1) || Run(1) == Run(2) {
		t.Error("Things are alike that aren't")
	}
}

// P13.1: the size of each thing that may be.
func TestSizeOfThings(t *testing.T) {
	for _, c := range systems(t) {
		for _, x := range things(c) {
			if got := x.Size(c); got != bytes(c, x) {
				t.Errorf("%v: Size of %v: %d", c, x, got)
			}
		}
		for class, size := range c.Classes {
			if got := Of(class).Size(c); got != size {
				t.Errorf("%v: Size of the class %d: %d", c, class, got)
			}
		}
		for n := 1; n <= c.Supers; n++ {
			if got := Run(n).Size(c); got != 1024*n {
				t.Errorf("%v: Size of a run of %d: %d", c, n, got)
			}
		}
	}
}

// wrong: things that may not be.
func wrong(c api.Config) []Thing {
	l := []Thing{{Class: -1}, {Class: -1, Run: -1}, {Class: -1, Run: c.Supers + 1}, {Class: -1, Run: 65}, {Class: len(c.Classes)}, {Class: 16}, {Class: -2, Run: 1}}
	for class := range c.Classes {
		l = append(l, Thing{Class: class, Run: 1}, Thing{Class: class, Run: -1}, Thing{Class: class, Run: c.Supers})
	}
	for _, n := range wild {
		l = append(l, Thing{Class: n}, Thing{Class: n, Run: 1}, Thing{Class: -1, Run: n}, Thing{Run: n}, Thing{Class: n, Run: n})
	}
	return l
}

// P13.1: things that may not be have no bytes.
func TestSizeOfWrongThings(t *testing.T) {
	for _, c := range systems(t) {
		for _, x := range wrong(c) {
			if got := x.Size(c); got != 0 {
				t.Errorf("%v: Size of %v: %d", c, x, got)
			}
		}
	}
}

// P13.2: a word for each grain.
func TestSize(t *testing.T) {
	for supers := 1; supers <= conf.MaxSupers; supers++ {
		if got := Size(system(supers, 16, 512)); got != 64*supers {
			t.Errorf("Size of %d superblocks: %d", supers, got)
		}
	}
}

// P13.2: nothing is live at first, wherever one looks.
func TestNewHasNothing(t *testing.T) {
	for _, c := range systems(t) {
		m := mem.New(Size(c))
		x := New(m, 0, c)
		if l := x.All(); len(l) != 0 || m.Ops() != 0 {
			t.Errorf("%v: All: %v, behind %d accesses", c, l, m.Ops())
		}
		for at := first; at < first+1024*c.Supers; at += 16 {
			if got, ok := x.Look(at); got != (Thing{}) || ok {
				t.Fatalf("%v: Look(%d): %v, %v", c, at, got, ok)
			}
			if got, ok := x.Take(at); got != (Thing{}) || ok {
				t.Fatalf("%v: Take(%d): %v, %v", c, at, got, ok)
			}
		}
		if l := x.All(); len(l) != 0 {
			t.Errorf("%v: All: %v", c, l)
		}
	}
}

// P13.3, P13.4: the chapter's example.
func TestExample(t *testing.T) {
	x := New(mem.New(64), 0, system(1, 16))
	if !x.Mark(65552, Of(0)) {
		t.Error("Mark")
	}
	if l := x.All(); !slices.Equal(l, []api.Interval{{At: 65552, Len: 16}}) {
		t.Errorf("All: %v", l)
	}
	if got, ok := x.Look(65552); got != Of(0) || !ok {
		t.Errorf("Look: %v, %v", got, ok)
	}
	if got, ok := x.Take(65552); got != Of(0) || !ok {
		t.Errorf("Take: %v, %v", got, ok)
	}
	if got, ok := x.Take(65552); got != (Thing{}) || ok {
		t.Errorf("a second Take: %v, %v", got, ok)
	}
}

// pair is a table, amid other words of its memory, and what should be live.
type pair struct {
	t     *testing.T
	c     api.Config
	m     *mem.Memory
	base  int
	x     *Table
	there map[int]Thing
}

// around are the words that are ahead of the table, and behind it.
const around = 0xABCD

func newPair(t *testing.T, c api.Config, base, behind int) *pair {
	m := mem.New(base + 64*c.Supers + behind)
	for i := range m.Len() {
		if i < base || i >= base+64*c.Supers {
			m.Store(i, around)
		}
	}
	return &pair{t: t, c: c, m: m, base: base, x: New(m, base, c), there: map[int]Thing{}}
}

// grain: does one begin at the address?
func (p *pair) grain(at int) bool {
	return at >= first && at < first+1024*p.c.Supers && at%16 == 0
}

// counted: a call made one access of that kind to a word of the table, or, where no grain begins, none.
func (p *pair) counted(what string, at, before int, kinds ...int) {
	p.t.Helper()
	n, last := p.m.Ops()-before, p.m.Last()
	if !p.grain(at) {
		if n != 0 {
			p.t.Fatalf("%s(%d): %d accesses", what, at, n)
		}
		return
	}
	if n != 1 || !slices.Contains(kinds, last.Kind) {
		p.t.Fatalf("%s(%d): %d accesses, %v", what, at, n, last)
	}
	if last.At < p.base || last.At >= p.base+64*p.c.Supers {
		p.t.Fatalf("%s(%d): the word %d", what, at, last.At)
	}
}

func (p *pair) mark(at int, x Thing) {
	p.t.Helper()
	before := p.m.Ops()
	if got := p.x.Mark(at, x); got != p.grain(at) {
		p.t.Fatalf("Mark(%d, %v): %v", at, x, got)
	}
	p.counted("Mark", at, before, mem.Stores, mem.Swaps, mem.Swings, mem.Adds)
	if p.grain(at) {
		p.there[at] = x
	}
}

func (p *pair) take(at int) {
	p.t.Helper()
	before := p.m.Ops()
	want, is := p.there[at]
	if got, ok := p.x.Take(at); got != want || ok != is {
		p.t.Fatalf("Take(%d): %v, %v, want %v, %v", at, got, ok, want, is)
	}
	p.counted("Take", at, before, mem.Swaps)
	delete(p.there, at)
}

func (p *pair) look(at int) {
	p.t.Helper()
	before := p.m.Ops()
	want, is := p.there[at]
	if got, ok := p.x.Look(at); got != want || ok != is {
		p.t.Fatalf("Look(%d): %v, %v, want %v, %v", at, got, ok, want, is)
	}
	p.counted("Look", at, before, mem.Loads, mem.Swaps, mem.Swings, mem.Adds)
}

// all: what is live is what should be, no access was made for it, and the words around are as they were.
func (p *pair) all() {
	p.t.Helper()
	var want []api.Interval
	for at := first; at < first+1024*p.c.Supers; at += 16 {
		if x, is := p.there[at]; is {
			want = append(want, api.Interval{At: at, Len: bytes(p.c, x)})
		}
	}
	ops, last := p.m.Ops(), p.m.Last()
	if got := p.x.All(); !slices.Equal(got, want) {
		p.t.Fatalf("All: %v, want %v", got, want)
	}
	if p.m.Ops() != ops || p.m.Last() != last || p.m.Faults() != 0 {
		p.t.Fatalf("All: %d accesses, %d faults", p.m.Ops()-ops, p.m.Faults())
	}
	for i, w := range p.m.Words() {
		if (i < p.base || i >= p.base+64*p.c.Supers) && w != around {
			p.t.Fatalf("the word %d is %d", i, w)
		}
	}
}

// P13.2: New makes no access, at any place of a memory; the first and the last grain are in the table.
func TestNewAtAllPlaces(t *testing.T) {
	for _, base := range []int{0, 1, 4, 1000} {
		for _, behind := range []int{0, 1, 7} {
			c := system(2, 16, 64)
			p := newPair(t, c, base, behind)
			if p.m.Ops() != base+behind {
				t.Errorf("New made %d accesses", p.m.Ops()-base-behind)
			}
			for _, at := range []int{first, first + 2032, first + 1008, first + 1024} {
				p.mark(at, Run(1))
				p.all()
			}
		}
	}
}

// P13.3, P13.4: each thing that may be at the edges of all superblocks, and each grain with some thing.
func TestEveryThing(t *testing.T) {
	for _, c := range systems(t) {
		p := newPair(t, c, 3, 2)
		end := first + 1024*c.Supers
		for _, x := range things(c) {
			for _, at := range []int{first, first + 16, first + 1008, end - 1024, end - 16} {
				p.mark(at, x)
				p.look(at)
				p.look(at)
				p.all()
				p.take(at)
				p.look(at)
				p.take(at)
				p.all()
			}
		}
		l := things(c)
		for n, at := 0, first; at < end; n, at = n+1, at+16 {
			p.mark(at, l[n%len(l)])
		}
		p.all()
		if len(p.x.All()) != 64*c.Supers {
			t.Errorf("%v: %d are live", c, len(p.x.All()))
		}
		for at := first; at < end; at += 16 {
			p.look(at)
		}
		for at := end - 16; at >= first; at -= 32 {
			p.take(at)
		}
		p.all()
	}
}

// P13.3: what is marked where something is live takes its place.
func TestMarkAnew(t *testing.T) {
	p := newPair(t, system(3, 16, 64), 0, 0)
	for _, x := range []Thing{Of(0), Run(3), Of(1), Of(1), Run(1), Of(0)} {
		p.mark(first+16, x)
		p.look(first + 16)
		p.all()
	}
	p.take(first + 16)
	p.take(first + 16)
	p.all()
}

// P13.3: addresses at which no grain begins: no access, and nothing changes.
func TestNoGrain(t *testing.T) {
	for _, c := range systems(t) {
		p := newPair(t, c, 2, 2)
		p.mark(first, Of(0))
		end := first + 1024*c.Supers
		p.mark(end-16, Run(1))
		far := append(slices.Clone(wild), 0, -1, 1, 16, 1024, first-1024, first-16, first-1, end, end+1, end+16, end+1024)
		for off := 1; off < 16; off++ {
			far = append(far, first+off, end-16+off, end-off)
		}
		for _, at := range far {
			if p.grain(at) {
				t.Fatalf("a grain begins at %d", at)
			}
			p.mark(at, Of(0))
			p.mark(at, Run(1))
			p.look(at)
			p.take(at)
		}
		p.all()
	}
}

// P13.3: all addresses from ahead of all to behind all.
func TestAllAddresses(t *testing.T) {
	p := newPair(t, system(2, 16, 48), 5, 5)
	for at := first - 2100; at < first+2*1024+2100; at++ {
		p.mark(at, Of(at/16%2))
		p.look(at)
	}
	p.all()
	for at := first - 2100; at < first+2*1024+2100; at++ {
		if at%3 == 0 {
			p.take(at)
		}
		p.look(at)
	}
	p.all()
}

// P13.3, P13.4: long rows of calls, held against what should be live.
func TestLongRows(t *testing.T) {
	for n, c := range systems(t) {
		next := dice(uint64(n))
		p := newPair(t, c, next(9), next(9))
		l := things(c)
		for i := range 5000 {
			at := first - 64 + 16*next(64*c.Supers+8)
			if next(10) == 0 {
				at += next(16)
			}
			switch next(3) {
			case 0:
				p.mark(at, l[next(len(l))])
			case 1:
				p.take(at)
			default:
				p.look(at)
			}
			if i%50 == 0 {
				p.all()
			}
		}
		p.all()
	}
}

// P13.3: of many who take the same one has it; tables of the same words see the same.
func TestTwoTables(t *testing.T) {
	c := system(1, 16, 512)
	m := mem.New(64)
	a, b := New(m, 0, c), New(m, 0, c)
	a.Mark(first+512, Of(1))
	if got, ok := b.Look(first + 512); got != Of(1) || !ok {
		t.Errorf("Look: %v, %v", got, ok)
	}
	if got, ok := b.Take(first + 512); got != Of(1) || !ok {
		t.Errorf("Take: %v, %v", got, ok)
	}
	if got, ok := a.Take(first + 512); got != (Thing{}) || ok {
		t.Errorf("a second Take: %v, %v", got, ok)
	}
}

// P13.2: two tables in one memory are apart.
func TestTablesApart(t *testing.T) {
	c := system(2, 16, 64)
	m := mem.New(2 * Size(c))
	a, b := New(m, 0, c), New(m, Size(c), c)
	for at := first; at < first+2048; at += 16 {
		a.Mark(at, Of(1))
	}
	if l := b.All(); len(l) != 0 {
		t.Errorf("All: %v", l)
	}
	for at := first; at < first+2048; at += 16 {
		b.Mark(at, Run(2))
		a.Take(at)
	}
	if len(a.All()) != 0 || len(b.All()) != 128 || m.Faults() != 0 {
		t.Errorf("All: %d, %d; %d faults", len(a.All()), len(b.All()), m.Faults())
	}
}

// P13.2, P2: the Config is neither kept nor changed.
func TestConfigIsNotKept(t *testing.T) {
	room := []int{16, 64, 3, 4}
	c := system(2, 16)
	c.Classes = room[:2]
	x := New(mem.New(Size(c)), 0, c)
	room[0], room[1] = 48, 0
	x.Mark(first, Of(0))
	x.Mark(first+64, Of(1))
	if l := x.All(); !slices.Equal(l, []api.Interval{{At: first, Len: 16}, {At: first + 64, Len: 64}}) {
		t.Errorf("All: %v", l)
	}
	Of(0).Size(c)
	Size(c)
	if !slices.Equal(room, []int{48, 0, 3, 4}) {
		t.Errorf("the classes: %d", room)
	}
}

// P2: what All answers is apart.
func TestAllIsApart(t *testing.T) {
	x := New(mem.New(64), 0, system(1, 16))
	x.Mark(first, Of(0))
	x.Mark(first+32, Of(0))
	l := x.All()
	l[0] = api.Interval{}
	if got := x.All(); !slices.Equal(got, []api.Interval{{At: first, Len: 16}, {At: first + 32, Len: 16}}) {
		t.Errorf("All: %v", got)
	}
}

// callAll calls all that there is.
func callAll(c api.Config, x *Table, numbers ...int) {
	Size(c)
	x.All()
	for _, n := range numbers {
		x.Look(n)
		x.Take(n)
		for _, k := range []int{math.MinInt, -1, 0, 1, 64, math.MaxInt} {
			x.Mark(n, Of(k))
			x.Mark(n, Run(k))
			x.Mark(n, Thing{Class: k, Run: k})
			Thing{Class: n, Run: k}.Size(c)
			Thing{Class: k, Run: n}.Size(c)
		}
	}
	x.All()
}

// P1: of Configs, tables, memories, places and words of which nothing is promised calls end, and none panics.
func TestOfWhatNothingIsPromised(t *testing.T) {
	numbers := append(slices.Clone(wild), -1, 0, 1, 2, 16, 1024, first, first+16, first+1024)
	right := system(2, 16, 64)
	m := mem.New(200)
	callAll(right, nil, numbers...)
	callAll(right, &Table{}, numbers...)
	callAll(right, New(nil, 0, right), numbers...)
	callAll(right, New(&mem.Memory{}, 0, right), numbers...)
	for _, n := range append(numbers, 73, 137, 199, 200) {
		callAll(right, New(m, n, right), numbers...)
		for _, c := range []api.Config{system(n, 16, 64), system(2, n), system(2, 16, n), system(n, n, n), system(n), {Supers: n}, {Workers: n, Supers: n, Batch: n, Tries: n, Classes: []int{n}}} {
			callAll(c, New(m, 0, c), numbers...)
			callAll(c, New(m, n, c), numbers...)
		}
	}
}

// P1: words that somebody else wrote, of which nothing is promised.
func TestStrayWords(t *testing.T) {
	c := system(2, 16, 64)
	m := mem.New(Size(c))
	x := New(m, 0, c)
	next := dice(5)
	for range 20000 {
		w := uint64(next(1<<31))<<33 + uint64(next(1<<31))
		m.Store(next(m.Len()), w>>next(64)<<next(64))
		m.Store(next(m.Len()), uint64(next(6))+uint64(next(70))<<8)
		at := first + 16*next(128)
		for _, got := range []func(int) (Thing, bool){x.Look, x.Take, x.Take} {
			if y, ok := got(at); ok && y.Size(c) == 0 || !ok && y != (Thing{}) {
				t.Fatalf("%v, %v", y, ok)
			}
		}
		if next(100) == 0 {
			for _, i := range x.All() {
				if i.Len != 16 && i.Len != 64 && i.Len != 1024 && i.Len != 2048 {
					t.Fatalf("All tells %v", i)
				}
			}
		}
	}
}
