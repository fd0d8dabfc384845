package hand

import (
	"maps"
	"slices"
	"testing"

	"chandlery/api"
	"chandlery/ask"
	"chandlery/conf"
	"chandlery/live"
)

// first is the first address of all.
const first = 65536

// What comes of it where nothing is live, and where there is no room.
var (
	wrong = api.Answer{Code: api.ErrFree}
	full  = api.Answer{Code: api.ErrMemory}
)

// dice: numbers by a rule, the same in every run.
func dice(seed uint64) func(n int) int {
	return func(n int) int {
		seed = seed*6364136223846793005 + 1442695040888963407
		return int(seed >> 33 % uint64(n))
	}
}

// systems: few and many workers, superblocks, blocks of a batch, tries and classes.
func systems(t *testing.T) []api.Config {
	t.Helper()
	all := []int{}
	for n := range conf.MaxClasses {
		all = append(all, 32*(n+1))
	}
	list := []api.Config{
		{Workers: 1, Supers: 1, Batch: 1, Classes: []int{16}},
		{Workers: 1, Supers: 2, Batch: 64, Classes: []int{16, 512}},
		{Workers: 2, Supers: 3, Batch: 2, Tries: 1, Classes: []int{256, 512}},
		{Workers: 3, Supers: 4, Batch: 1, Tries: 2, Classes: []int{48, 336, 496}},
		{Workers: 5, Supers: 7, Batch: 3, Tries: 8, Classes: []int{32, 64, 128}},
		{Workers: 2, Supers: 64, Batch: 2, Classes: all},
	}
	for _, c := range list {
		if conf.Check(c) != api.OK {
			t.Fatalf("%v may not be", c)
		}
	}
	return list
}

// alloc, free, usable: what a worker may be asked for.
func alloc(size int) api.Request { return api.Request{Kind: api.Alloc, N: size} }

func free(at int) api.Request { return api.Request{Kind: api.Free, N: at} }

func usable(at int) api.Request { return api.Request{Kind: api.Usable, N: at} }

// sizeOf: how many bytes a thing that may be has.
func sizeOf(c api.Config, x live.Thing) int {
	if x.Run > 0 {
		return 1024 * x.Run
	}
	return c.Classes[x.Class]
}

// desk is a worker, and what it should do.
type desk struct {
	*Hand
	asked []api.Request // what it should not have begun
	busy  bool          // it does something
	does  api.Request   // what that is
	steps int           // that many steps long
	come  api.Answer    // what should come of a Free, from its first step on
}

// bench is a shop, its workers, and what should be live, as far as what is done counts.
type bench struct {
	t     *testing.T
	c     api.Config
	s     *ask.Shop
	desks []*desk
	there map[int]live.Thing
	most  int // the most steps that anything took
	spent int // how many things are over
}

func open(t *testing.T, c api.Config) *bench {
	t.Helper()
	s, e := ask.Open(c)
	if e != api.OK {
		t.Fatalf("%v: Open: %d", c, e)
	}
	b := &bench{t: t, c: c, s: s, there: map[int]live.Thing{}}
	for i := range c.Workers {
		b.desks = append(b.desks, &desk{Hand: New(s, i)})
	}
	return b
}

// ask: a worker is asked for these, too.
func (b *bench) ask(worker int, l ...api.Request) {
	b.t.Helper()
	d := b.desks[worker]
	d.Ask(l...)
	d.asked = append(d.asked, l...)
	b.waits(d)
}

// waits: what it was asked for, and whether it does nothing, is as it should be.
func (b *bench) waits(d *desk) {
	b.t.Helper()
	if q := d.Queue(); !slices.Equal(q, d.asked) {
		b.t.Fatalf("%v: Queue is %v, want %v", b.c, q, d.asked)
	}
	if idle := !d.busy && len(d.asked) == 0; d.Idle() != idle {
		b.t.Fatalf("%v: Idle is %v, want %v", b.c, d.Idle(), idle)
	}
}

// pick: a step of a worker, held against the chapter's words.
func (b *bench) pick(worker int) Progress {
	b.t.Helper()
	d, ops := b.desks[worker], b.s.Memory.Ops()
	b.waits(d)
	p := d.Step()
	n := b.s.Memory.Ops() - ops
	if n < 0 || n > 1 || b.s.Memory.Faults() != 0 {
		b.t.Fatalf("%v: %v by %d accesses, %d faults", b.c, p, n, b.s.Memory.Faults())
	}
	if !d.busy && len(d.asked) == 0 {
		if p != (Progress{}) || n != 0 {
			b.t.Fatalf("%v: one that is Idle: %v by %d accesses", b.c, p, n)
		}
		return p
	}
	if !p.Stepped || p.Began == d.busy {
		b.t.Fatalf("%v: %v, and it did something ahead of that: %v", b.c, p, d.busy)
	}
	if !d.busy {
		d.busy, d.does, d.asked, d.steps = true, d.asked[0], d.asked[1:], 0
	}
	d.steps++
	if p.Request != d.does {
		b.t.Fatalf("%v: %v, want %v", b.c, p, d.does)
	}
	b.came(d, p, n)
	b.over(d, p)
	b.waits(d)
	return p
}

// over: what ended does so within the bound, and isn't done any more.
func (b *bench) over(d *desk, p Progress) {
	b.t.Helper()
	if d.steps > conf.Bound(b.c) {
		b.t.Fatalf("%v: %v: it took %d steps, the bound is %d", b.c, p, d.steps, conf.Bound(b.c))
	}
	if p.Ended {
		d.busy = false
		b.most = max(b.most, d.steps)
		b.spent++
	}
}

// came: what came of it by so many accesses is as it should be for all that counts.
func (b *bench) came(d *desk, p Progress, accesses int) {
	b.t.Helper()
	x, e := ask.Check(b.c, p.Request)
	switch {
	case e != api.OK:
		b.atOnce(p, api.Answer{Code: e}, accesses, 0)
	case p.Request.Kind == api.Usable:
		b.atOnce(p, b.size(p.Request.N), accesses, 1)
	case p.Request.Kind == api.Free:
		b.gave(d, p)
	default:
		b.took(p, x)
	}
}

// size: how great what is live at an address is.
func (b *bench) size(at int) api.Answer {
	if x, ok := b.there[at]; ok {
		return api.Answer{N: sizeOf(b.c, x)}
	}
	return wrong
}

// atOnce: it began, counts and ended in one step.
func (b *bench) atOnce(p Progress, want api.Answer, accesses, should int) {
	b.t.Helper()
	if !p.Began || !p.Counts || !p.Ended || p.Answer != want || accesses != should {
		b.t.Fatalf("%v: %v by %d accesses, want %v by %d", b.c, p, accesses, want, should)
	}
}

// gave: from its first step on nobody else has what it gives back, and so it was answered in each one.
func (b *bench) gave(d *desk, p Progress) {
	b.t.Helper()
	if p.Began {
		d.come = b.size(p.Request.N)
		delete(b.there, p.Request.N)
	}
	if p.Counts != p.Began || p.Answer != d.come || !p.Ended && d.come == wrong {
		b.t.Fatalf("%v: %v, want %v", b.c, p, d.come)
	}
}

// took: it is answered in its last step alone; if that is OK, it counts then, and lies apart from all that is live.
func (b *bench) took(p Progress, x live.Thing) {
	b.t.Helper()
	if !p.Ended || p.Answer == full {
		if p.Counts || !p.Ended && p.Answer != (api.Answer{}) {
			b.t.Fatalf("%v: %v", b.c, p)
		}
		return
	}
	if !p.Counts || p.Answer.Code != api.OK {
		b.t.Fatalf("%v: %v", b.c, p)
	}
	for at, y := range b.there {
		if p.Answer.N < at+sizeOf(b.c, y) && at < p.Answer.N+sizeOf(b.c, x) {
			b.t.Fatalf("%v: %v, and %v is live at %d", b.c, p, y, at)
		}
	}
	b.there[p.Answer.N] = x
}

// do: a worker that is Idle does this, alone: its steps.
func (b *bench) do(worker int, r api.Request) []Progress {
	b.t.Helper()
	b.ask(worker, r)
	var l []Progress
	for !b.desks[worker].Idle() {
		l = append(l, b.pick(worker))
	}
	return l
}

// get: what came of it behind its last step.
func (b *bench) get(worker int, r api.Request) api.Answer {
	b.t.Helper()
	l := b.do(worker, r)
	return l[len(l)-1].Answer
}

// rest: all workers end all that they were asked for; then just what should be is live.
func (b *bench) rest() {
	b.t.Helper()
	for i, d := range b.desks {
		for !d.Idle() {
			b.pick(i)
		}
	}
	b.liveIs()
}

// liveIs: just what should be is live.
func (b *bench) liveIs() {
	b.t.Helper()
	var want []api.Interval
	for _, at := range b.addresses() {
		want = append(want, api.Interval{At: at, Len: sizeOf(b.c, b.there[at])})
	}
	if got := b.s.Live.All(); !slices.Equal(got, want) {
		b.t.Fatalf("%v: live are %v, want %v", b.c, got, want)
	}
}

// addresses: of what should be live, in order.
func (b *bench) addresses() []int { return slices.Sorted(maps.Keys(b.there)) }

// some: one of the addresses at which something should be live, and true; false: nothing is.
func (b *bench) some(next func(int) int) (int, bool) {
	if len(b.there) == 0 {
		return 0, false
	}
	return b.addresses()[next(len(b.there))], true
}

// clear: all that is live is given back; then each block of a superblock of a class is free, all workers' or one's own.
func (b *bench) clear(next func(int) int) {
	b.t.Helper()
	for at, ok := b.some(next); ok; at, ok = b.some(next) {
		b.do(next(b.c.Workers), free(at))
	}
	b.liveIs()
	for super := range b.c.Supers {
		s, _ := b.s.Super(super)
		if s.Run != 0 {
			b.t.Fatalf("%v: the superblock %d is of a run still: %v", b.c, super, s)
		}
		if s.Class < 0 {
			continue
		}
		n := s.Mask.Count()
		for _, d := range b.desks {
			for _, block := range d.Own(s.Class) {
				if block.Super == super {
					n++
				}
			}
		}
		if n != 1024/b.c.Classes[s.Class] {
			b.t.Fatalf("%v: %d blocks of %v are free", b.c, n, s)
		}
	}
}
