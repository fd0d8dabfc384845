package take

import (
	"slices"
	"testing"

	"chandlery/api"
	"chandlery/ask"
	"chandlery/conf"
	"chandlery/hall"
	"chandlery/heart"
	"chandlery/live"
	"chandlery/stock"
)

// first is the first address of all.
const first = 65536

// none is what comes of it where there is nothing.
var none = api.Answer{Code: api.ErrMemory}

// dice: numbers by a rule, the same in every run.
func dice(seed uint64) func(n int) int {
	return func(n int) int {
		seed = seed*6364136223846793005 + 1442695040888963407
		return int(seed >> 33 % uint64(n))
	}
}

// systems: few and many workers, superblocks, blocks of a batch, tries and classes.
func systems(t *testing.T) []api.Config {
	t.Helper()
	all := []int{}
	for n := range conf.MaxClasses {
		all = append(all, 32*(n+1))
	}
	list := []api.Config{
		{Workers: 1, Supers: 1, Batch: 1, Classes: []int{16}},
		{Workers: 1, Supers: 2, Batch: 64, Classes: []int{16, 512}},
		{Workers: 2, Supers: 3, Batch: 2, Tries: 1, Classes: []int{256, 512}},
		{Workers: 3, Supers: 2, Batch: 7, Tries: 2, Classes: []int{48, 336, 496}},
		{Workers: 5, Supers: 7, Batch: 3, Tries: 8, Classes: []int{32, 64, 128}},
		{Workers: 4, Supers: 64, Batch: 20, Classes: all},
	}
	for _, c := range list {
		if conf.Check(c) != api.OK {
			t.Fatalf("%v may not be", c)
		}
	}
	return list
}

// things: all that may be, of a Config.
func things(c api.Config) []live.Thing {
	var l []live.Thing
	for class := range c.Classes {
		l = append(l, live.Of(class))
	}
	for n := 1; n <= c.Supers; n++ {
		l = append(l, live.Run(n))
	}
	return l
}

// bench is a shop, and what each of its workers has of its own.
type bench struct {
	t   *testing.T
	c   api.Config
	s   *ask.Shop
	own []*stock.Stock
}

func open(t *testing.T, c api.Config) *bench {
	t.Helper()
	s, e := ask.Open(c)
	if e != api.OK {
		t.Fatalf("%v: Open: %d", c, e)
	}
	b := &bench{t: t, c: c, s: s}
	for range c.Workers {
		b.own = append(b.own, stock.New(c))
	}
	return b
}

// bound: behind how many steps one is over, at most, that has no block of its own.
func (b *bench) bound() int { return conf.Call(2*b.c.Supers, b.c.Workers, b.c.Tries) + 1 }

// step: a step of one that isn't over, with one access at most; as long as it isn't over it has no answer.
func (b *bench) step(x *Take) bool {
	b.t.Helper()
	if a, ok := x.Answer(); ok || a != (api.Answer{}) {
		b.t.Fatalf("it isn't over, and has the answer %v, %v", a, ok)
	}
	before := b.s.Memory.Ops()
	over := x.Step()
	if n := b.s.Memory.Ops() - before; n > 1 || b.s.Memory.Faults() != 0 {
		b.t.Fatalf("a step of %d accesses, %d faults", n, b.s.Memory.Faults())
	}
	if a, ok := x.Answer(); ok != over || !ok && a != (api.Answer{}) {
		b.t.Fatalf("Step: %v, and the answer %v, %v", over, a, ok)
	}
	return over
}

// still: one that is over does nothing any more.
func (b *bench) still(x *Take) {
	b.t.Helper()
	want, _ := x.Answer()
	before := b.s.Memory.Ops()
	for range 3 {
		if a, ok := x.Answer(); !x.Step() || !ok || a != want {
			b.t.Fatalf("behind its end: %v, %v", a, ok)
		}
	}
	if b.s.Memory.Ops() != before {
		b.t.Fatal("an access behind its end")
	}
}

// finish: to its end, alone: what came of it, and behind how many steps.
func (b *bench) finish(x *Take) (api.Answer, int) {
	b.t.Helper()
	for n := 1; n <= b.bound(); n++ {
		if b.step(x) {
			a, _ := x.Answer()
			b.still(x)
			return a, n
		}
	}
	b.t.Fatalf("it isn't over behind %d steps", b.bound())
	return api.Answer{}, 0
}

// picture is all that can be told of a shop and its workers' own blocks.
type picture struct {
	state   []uint64
	live    []api.Interval
	entries []hall.Entry
	own     [][][]api.Block // of each worker, of each class
}

func (b *bench) picture() picture {
	p := picture{state: b.s.Hall.State(), live: b.s.Live.All(), entries: b.s.Hall.Entries()}
	for _, own := range b.own {
		var l [][]api.Block
		for class := range b.c.Classes {
			l = append(l, own.Blocks(class))
		}
		p.own = append(p.own, l)
	}
	return p
}

// same: are both the same? (When an Entry was made is none of a plain reckoning.)
func (p picture) same(q picture) bool {
	return slices.Equal(p.state, q.state) && slices.Equal(p.live, q.live) &&
		slices.EqualFunc(p.entries, q.entries, func(a, b hall.Entry) bool {
			return a.Worker == b.Worker && a.Op == b.Op && a.Answer == b.Answer
		}) &&
		slices.EqualFunc(p.own, q.own, func(a, b [][]api.Block) bool {
			return slices.EqualFunc(a, b, func(a, b []api.Block) bool { return slices.Equal(a, b) })
		})
}

// ask: the heart is asked in the picture; what it answers.
func (p *picture) ask(c api.Config, worker int, op api.Op) api.Op {
	got := heart.New(c).Apply(p.state, op)
	p.entries = append(p.entries, hall.Entry{Worker: worker, Op: op, Answer: got})
	return got
}

// have: something is live in the picture from now on.
func (p *picture) have(at, size int) {
	p.live = append(p.live, api.Interval{At: at, Len: size})
	slices.SortFunc(p.live, func(a, b api.Interval) int { return a.At - b.At })
}

// reckon: what should come of it, and what the picture should be behind it, told by the chapter's words.
func (p *picture) reckon(c api.Config, worker int, x live.Thing) api.Answer {
	if x.Run > 0 {
		got := p.ask(c, worker, heart.Take(x.Run))
		if got == (api.Op{}) {
			return none
		}
		at := first + 1024*(int(got.A)-1)
		p.have(at, 1024*x.Run)
		return api.Answer{N: at}
	}
	own := &p.own[worker][x.Class]
	if len(*own) == 0 {
		got := p.ask(c, worker, heart.Refill(x.Class))
		if got == (api.Op{}) {
			return none
		}
		for i := 63; i >= 0; i-- {
			if got.B>>i&1 == 1 {
				*own = append(*own, api.Block{Super: int(got.A) - 1, Index: i})
			}
		}
	}
	top := (*own)[len(*own)-1]
	*own = (*own)[:len(*own)-1]
	at := first + 1024*top.Super + c.Classes[x.Class]*top.Index
	p.have(at, c.Classes[x.Class])
	return api.Answer{N: at}
}

// take: a worker is to have something, alone, held against what should come of it.
func (b *bench) take(worker int, x live.Thing) (api.Answer, int) {
	b.t.Helper()
	want := b.picture()
	has := b.own[worker].Len(x.Class) > 0
	answer := want.reckon(b.c, worker, x)
	got, n := b.finish(New(b.s, worker, b.own[worker], x))
	if got != answer {
		b.t.Fatalf("%v: %v of the worker %d: %v, want %v", b.c, x, worker, got, answer)
	}
	if p := b.picture(); !p.same(want) {
		b.t.Fatalf("%v: behind %v of the worker %d: %v, want %v", b.c, x, worker, p, want)
	}
	if has && n != 1 {
		b.t.Fatalf("%v: a block of its own behind %d steps", b.c, n)
	}
	return got, n
}

// call: a worker asks the hall, alone.
func (b *bench) call(worker int, op api.Op) api.Op {
	b.t.Helper()
	call := b.s.Hall.Call(worker, op)
	for !call.Step() {
	}
	a, ok := call.Answer()
	if !ok {
		b.t.Fatalf("the hall has no answer to %v", op)
	}
	return a
}

// back: what is live at an address is no more, and a worker's own, or all's.
func (b *bench) back(worker, at int) {
	b.t.Helper()
	x, ok := b.s.Live.Take(at)
	if !ok {
		b.t.Fatalf("nothing is live at %d", at)
	}
	super := (at - first) / 1024
	if x.Run > 0 {
		b.call(worker, heart.Give(super))
		return
	}
	block := api.Block{Super: super, Index: (at - first) % 1024 / b.c.Classes[x.Class]}
	if !b.own[worker].Push(x.Class, block) {
		b.t.Fatalf("%v is the worker %d's already", block, worker)
	}
}

// spill: what a worker has of a class beyond two batches goes back to all.
func (b *bench) spill(worker, class int) {
	b.t.Helper()
	for {
		super, m, ok := b.own[worker].Spill(class)
		if !ok {
			return
		}
		if b.call(worker, heart.Flush(super, m)) != (api.Op{A: 1}) {
			b.t.Fatalf("the blocks %d of %d don't go back", m, super)
		}
	}
}

// whole: each block of each superblock that is of a class is in one place, and no two that are live share an address.
func (b *bench) whole() {
	b.t.Helper()
	end := 0
	there := map[int]bool{}
	for _, i := range b.s.Live.All() {
		if i.At < end || i.At+i.Len > first+1024*b.c.Supers {
			b.t.Fatalf("%v is live, too", i)
		}
		end = i.At + i.Len
		there[i.At] = true
	}
	for super := range b.c.Supers {
		s, _ := b.s.Super(super)
		if s.Class < 0 {
			continue
		}
		for i := range 1024 / b.c.Classes[s.Class] {
			if n := b.places(s, api.Block{Super: super, Index: i}, there); n != 1 {
				b.t.Fatalf("the block %d of %d is in %d places", i, super, n)
			}
		}
	}
}

// places: in how many places a block is.
func (b *bench) places(s heart.Super, block api.Block, there map[int]bool) int {
	n := 0
	if s.Mask.Has(block.Index) {
		n++
	}
	if there[first+1024*block.Super+b.c.Classes[s.Class]*block.Index] {
		n++
	}
	for _, own := range b.own {
		if slices.Contains(own.Blocks(s.Class), block) {
			n++
		}
	}
	return n
}
