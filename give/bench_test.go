package give

import (
	"maps"
	"slices"
	"testing"

	"chandlery/api"
	"chandlery/ask"
	"chandlery/conf"
	"chandlery/hall"
	"chandlery/heart"
	"chandlery/live"
	"chandlery/mask"
	"chandlery/stock"
	"chandlery/take"
)

// first is the first address of all.
const first = 65536

// What comes of it where nothing is live, and where there is no room.
var (
	wrong = api.Answer{Code: api.ErrFree}
	full  = api.Answer{Code: api.ErrMemory}
)

// dice: numbers by a rule, the same in every run.
func dice(seed uint64) func(n int) int {
	return func(n int) int {
		seed = seed*6364136223846793005 + 1442695040888963407
		return int(seed >> 33 % uint64(n))
	}
}

// systems: few and many workers, superblocks, blocks of a batch, tries and classes.
func systems(t *testing.T) []api.Config {
	t.Helper()
	all := []int{}
	for n := range conf.MaxClasses {
		all = append(all, 32*(n+1))
	}
	list := []api.Config{
		{Workers: 1, Supers: 1, Batch: 1, Classes: []int{16}},
		{Workers: 1, Supers: 2, Batch: 64, Classes: []int{16, 512}},
		{Workers: 2, Supers: 3, Batch: 2, Tries: 1, Classes: []int{256, 512}},
		{Workers: 3, Supers: 4, Batch: 1, Tries: 2, Classes: []int{48, 336, 496}},
		{Workers: 5, Supers: 7, Batch: 3, Tries: 8, Classes: []int{32, 64, 128}},
		{Workers: 2, Supers: 64, Batch: 2, Classes: all},
	}
	for _, c := range list {
		if conf.Check(c) != api.OK {
			t.Fatalf("%v may not be", c)
		}
	}
	return list
}

// things: all that may be, of a Config.
func things(c api.Config) []live.Thing {
	var l []live.Thing
	for class := range c.Classes {
		l = append(l, live.Of(class))
	}
	for n := 1; n <= c.Supers; n++ {
		l = append(l, live.Run(n))
	}
	return l
}

// sizeOf: how many bytes a thing that may be has.
func sizeOf(c api.Config, x live.Thing) int {
	if x.Run > 0 {
		return 1024 * x.Run
	}
	return c.Classes[x.Class]
}

// machine is what a worker does: it takes, or it gives.
type machine interface {
	Step() bool
	Answer() (api.Answer, bool)
}

// bench is a shop, what each of its workers has of its own, and what should be live.
type bench struct {
	t     *testing.T
	c     api.Config
	s     *ask.Shop
	own   []*stock.Stock
	there map[int]live.Thing
}

func open(t *testing.T, c api.Config) *bench {
	t.Helper()
	s, e := ask.Open(c)
	if e != api.OK {
		t.Fatalf("%v: Open: %d", c, e)
	}
	b := &bench{t: t, c: c, s: s, there: map[int]live.Thing{}}
	for range c.Workers {
		b.own = append(b.own, stock.New(c))
	}
	return b
}

// bound: behind how many steps a machine is over, at most.
func (b *bench) bound() int { return conf.Call(2*b.c.Supers, b.c.Workers, b.c.Tries) + 1 }

// step: a step of one that isn't over, with one access at most; as long as it isn't over it has no answer.
func (b *bench) step(m machine) bool {
	b.t.Helper()
	if a, ok := m.Answer(); ok || a != (api.Answer{}) {
		b.t.Fatalf("it isn't over, and has the answer %v, %v", a, ok)
	}
	before := b.s.Memory.Ops()
	over := m.Step()
	if n := b.s.Memory.Ops() - before; n > 1 || b.s.Memory.Faults() != 0 {
		b.t.Fatalf("a step of %d accesses, %d faults", n, b.s.Memory.Faults())
	}
	if a, ok := m.Answer(); ok != over || !ok && a != (api.Answer{}) {
		b.t.Fatalf("Step: %v, and the answer %v, %v", over, a, ok)
	}
	return over
}

// still: one that is over does nothing any more.
func (b *bench) still(g *Give) {
	b.t.Helper()
	want, _ := g.Answer()
	before := b.s.Memory.Ops()
	for range 3 {
		a, ok := g.Answer()
		k, known := g.Known()
		if !g.Step() || !ok || !known || a != want || k != want {
			b.t.Fatalf("behind its end: %v, %v, known is %v, %v", a, ok, k, known)
		}
	}
	if b.s.Memory.Ops() != before {
		b.t.Fatal("an access behind its end")
	}
}

// finish: to its end, alone: what came of it, and behind how many steps. What is known is so from the first step on.
func (b *bench) finish(g *Give) (api.Answer, int) {
	b.t.Helper()
	if a, ok := g.Known(); ok || a != (api.Answer{}) {
		b.t.Fatalf("known ahead of all steps: %v, %v", a, ok)
	}
	over := b.step(g)
	want, known := g.Known()
	for n := 1; n <= b.bound(); n++ {
		if a, ok := g.Known(); !known || !ok || a != want {
			b.t.Fatalf("known behind %d steps: %v, %v, want %v", n, a, ok, want)
		}
		if over {
			a, _ := g.Answer()
			if a != want {
				b.t.Fatalf("the answer is %v, known was %v", a, want)
			}
			b.still(g)
			return a, n
		}
		over = b.step(g)
	}
	b.t.Fatalf("it isn't over behind %d steps", b.bound())
	return api.Answer{}, 0
}

// take: a worker is to have something, alone.
func (b *bench) take(worker int, x live.Thing) api.Answer {
	b.t.Helper()
	m := take.New(b.s, worker, b.own[worker], x)
	for !b.step(m) {
	}
	a, _ := m.Answer()
	if a.Code == api.OK {
		b.there[a.N] = x
	}
	return a
}

// call: a worker asks the hall, alone.
func (b *bench) call(worker int, op api.Op) api.Op {
	b.t.Helper()
	call := b.s.Hall.Call(worker, op)
	for !call.Step() {
	}
	a, ok := call.Answer()
	if !ok {
		b.t.Fatalf("the hall has no answer to %v", op)
	}
	return a
}

// picture is all that can be told of a shop and its workers' own blocks.
type picture struct {
	state   []uint64
	entries []hall.Entry
	there   map[int]live.Thing
	own     [][][]api.Block // of each worker, of each class
}

// picture: as all should be; what is live is told by what was answered.
func (b *bench) picture() picture {
	p := picture{state: b.s.Hall.State(), entries: b.s.Hall.Entries(), there: maps.Clone(b.there)}
	for _, own := range b.own {
		var l [][]api.Block
		for class := range b.c.Classes {
			l = append(l, own.Blocks(class))
		}
		p.own = append(p.own, l)
	}
	return p
}

// expect: all is as in the picture. (When an Entry was made is none of a plain reckoning.)
func (b *bench) expect(want picture) {
	b.t.Helper()
	got := b.picture()
	entries := slices.EqualFunc(got.entries, want.entries, func(x, y hall.Entry) bool {
		return x.Worker == y.Worker && x.Op == y.Op && x.Answer == y.Answer
	})
	own := slices.EqualFunc(got.own, want.own, func(x, y [][]api.Block) bool {
		return slices.EqualFunc(x, y, func(x, y []api.Block) bool { return slices.Equal(x, y) })
	})
	if !entries || !own || !slices.Equal(got.state, want.state) {
		b.t.Fatalf("%v: the shop is %v, want %v", b.c, got, want)
	}
	b.liveIs(want.there)
}

// liveIs: just these things are live.
func (b *bench) liveIs(there map[int]live.Thing) {
	b.t.Helper()
	var want []api.Interval
	for _, at := range slices.Sorted(maps.Keys(there)) {
		want = append(want, api.Interval{At: at, Len: sizeOf(b.c, there[at])})
	}
	if got := b.s.Live.All(); !slices.Equal(got, want) {
		b.t.Fatalf("%v: live are %v, want %v", b.c, got, want)
	}
}

// ask: the heart is asked in the picture.
func (p *picture) ask(c api.Config, worker int, op api.Op) {
	got := heart.New(c).Apply(p.state, op)
	p.entries = append(p.entries, hall.Entry{Worker: worker, Op: op, Answer: got})
}

// reckon: what should come of it, and what the picture should be behind it, told by the chapter's words; is the hall asked?
func (p *picture) reckon(c api.Config, worker, at int) (api.Answer, bool) {
	x, ok := p.there[at]
	if !ok {
		return wrong, false
	}
	delete(p.there, at)
	answer, super := api.Answer{N: sizeOf(c, x)}, (at-first)/1024
	if x.Run > 0 {
		p.ask(c, worker, heart.Give(super))
		return answer, true
	}
	own := &p.own[worker][x.Class]
	*own = append(*own, api.Block{Super: super, Index: (at - first) % 1024 / c.Classes[x.Class]})
	if len(*own) <= 2*c.Batch {
		return answer, false
	}
	p.spill(c, worker, x.Class)
	return answer, true
}

// spill: of the superblock of which there are most blocks, the first such, all go back.
func (p *picture) spill(c api.Config, worker, class int) {
	own := &p.own[worker][class]
	masks := make([]mask.Mask, c.Supers)
	for _, b := range *own {
		masks[b.Super] = masks[b.Super].With(b.Index)
	}
	super := 0
	for i, m := range masks {
		if m.Count() > masks[super].Count() {
			super = i
		}
	}
	p.ask(c, worker, heart.Flush(super, masks[super]))
	*own = slices.DeleteFunc(slices.Clone(*own), func(b api.Block) bool { return b.Super == super })
}

// give: a worker gives back what is at an address, alone, held against what should come of it.
func (b *bench) give(worker, at int) (api.Answer, int) {
	b.t.Helper()
	want := b.picture()
	answer, asks := want.reckon(b.c, worker, at)
	got, n := b.finish(New(b.s, worker, b.own[worker], at))
	if got != answer || !asks && n != 1 || asks && n < 2 {
		b.t.Fatalf("%v: %d of the worker %d: %v behind %d steps, want %v", b.c, at, worker, got, n, answer)
	}
	delete(b.there, at)
	b.expect(want)
	return got, n
}

// whole: no block of a superblock of a class is in two places, nor, where all is settled, in none.
func (b *bench) whole(settled bool) {
	b.t.Helper()
	for super := range b.c.Supers {
		s, _ := b.s.Super(super)
		if s.Class < 0 {
			continue
		}
		for i := range 1024 / b.c.Classes[s.Class] {
			n := b.places(s, api.Block{Super: super, Index: i})
			if n > 1 || n < 1 && settled {
				b.t.Fatalf("%v: the block %d of %d is in %d places", b.c, i, super, n)
			}
		}
	}
}

// places: in how many places a block is.
func (b *bench) places(s heart.Super, block api.Block) int {
	n := 0
	if s.Mask.Has(block.Index) {
		n++
	}
	if _, ok := b.there[first+1024*block.Super+b.c.Classes[s.Class]*block.Index]; ok {
		n++
	}
	for _, own := range b.own {
		if slices.Contains(own.Blocks(s.Class), block) {
			n++
		}
	}
	return n
}
