package take

import (
	"math"
	"slices"
	"testing"

	"chandlery/api"
	"chandlery/ask"
	"chandlery/conf"
	"chandlery/hall"
	"chandlery/heart"
	"chandlery/live"
	"chandlery/mask"
	"chandlery/mem"
	"chandlery/stock"
)

// The chapter's example.
func TestExample(t *testing.T) {
	b := open(t, api.Config{Workers: 1, Supers: 1, Batch: 2, Classes: []int{512}})
	if a, n := b.take(0, live.Of(0)); a != (api.Answer{N: 65536}) || n < 2 {
		t.Errorf("a first one: %v behind %d steps", a, n)
	}
	if a, n := b.take(0, live.Of(0)); a != (api.Answer{N: 66048}) || n != 1 {
		t.Errorf("another one: %v behind %d steps", a, n)
	}
	if a, _ := b.take(0, live.Of(0)); a != (api.Answer{Code: api.ErrMemory}) {
		t.Errorf("a third one: %v", a)
	}
}

// P15.1: New does nothing yet: no access, and own is as it was.
func TestNewDoesNothing(t *testing.T) {
	for _, c := range systems(t) {
		b := open(t, c)
		b.own[0].Fill(0, 0, 3)
		want, ops := b.picture(), b.s.Memory.Ops()
		for _, x := range things(c) {
			for worker := range c.Workers {
				if a, ok := New(b.s, worker, b.own[worker], x).Answer(); ok || a != (api.Answer{}) {
					t.Fatalf("%v: Answer ahead of all steps: %v, %v", c, a, ok)
				}
			}
		}
		if !b.picture().same(want) || b.s.Memory.Ops() != ops {
			t.Errorf("%v: New did something", c)
		}
		if b.s.Hall.Call(0, heart.Take(1)) == nil {
			t.Errorf("%v: New asks the hall", c)
		}
	}
}

// P15.2, P15.3: a block of its own: the one on top, in one step, of one access, without the hall; those of other classes stay.
func TestOfItsOwn(t *testing.T) {
	for _, c := range systems(t) {
		b := open(t, c)
		for class := range c.Classes {
			if class < c.Supers {
				b.own[0].Fill(class, class, mask.Low(1024/c.Classes[class]))
			}
		}
		for class, size := range c.Classes {
			if class >= c.Supers {
				break
			}
			for i := range 1024 / size {
				ops := b.s.Memory.Ops()
				x := New(b.s, 0, b.own[0], live.Of(class))
				if !b.step(x) {
					t.Fatalf("%v: more than one step", c)
				}
				want := api.Answer{N: first + 1024*class + size*i}
				if a, _ := x.Answer(); a != want || b.s.Memory.Ops() != ops+1 || b.own[0].Len(class) != 1024/size-i-1 {
					t.Fatalf("%v: %v by %d accesses, want %v; %d stay", c, a, b.s.Memory.Ops()-ops, want, b.own[0].Len(class))
				}
				if y, ok := b.s.Live.Look(want.N); y != live.Of(class) || !ok {
					t.Fatalf("%v: live there: %v, %v", c, y, ok)
				}
			}
		}
		if b.s.Hall.Count() != 0 {
			t.Errorf("%v: the hall was asked", c)
		}
	}
}

// P15.2: what is on top goes first, also if it came last, or isn't the least one.
func TestTopOfItsOwn(t *testing.T) {
	b := open(t, api.Config{Workers: 1, Supers: 2, Batch: 4, Classes: []int{128, 256}})
	pushed := []api.Block{{Super: 1, Index: 3}, {Super: 0, Index: 7}, {Super: 1, Index: 0}, {Super: 0, Index: 5}}
	for _, block := range pushed {
		b.own[0].Push(0, block)
	}
	b.own[0].Push(1, api.Block{Super: 1, Index: 3})
	for i, block := range slices.Backward(pushed) {
		if a, n := b.take(0, live.Of(0)); a.N != first+1024*block.Super+128*block.Index || n != 1 {
			t.Errorf("%d: %v behind %d steps", i, a, n)
		}
	}
	if !slices.Equal(b.own[0].Blocks(1), []api.Block{{Super: 1, Index: 3}}) {
		t.Errorf("the other class: %v", b.own[0].Blocks(1))
	}
}

// P15.2: without a block of its own a Refill of the class: all others are its own, the least one is had.
func TestRefill(t *testing.T) {
	b := open(t, api.Config{Workers: 2, Supers: 2, Batch: 3, Classes: []int{128, 256}})
	// What it has of another class, or another worker of this one, is of no use.
	b.call(1, heart.Refill(0))
	b.own[1].Fill(0, 0, 7)
	b.own[0].Push(1, api.Block{Super: 1, Index: 3})
	if a, n := b.take(0, live.Of(0)); a != (api.Answer{N: first + 3*128}) || n < 2 {
		t.Errorf("%v behind %d steps", a, n)
	}
	if l := b.own[0].Blocks(0); !slices.Equal(l, []api.Block{{Index: 5}, {Index: 4}}) {
		t.Errorf("its own: %v", l)
	}
	e := b.s.Hall.Entries()
	if len(e) != 2 || e[1].Worker != 0 || e[1].Op != heart.Refill(0) || e[1].Answer != (api.Op{A: 1, B: 56}) {
		t.Errorf("Entries: %v", e)
	}
	// The last batch of a superblock is a short one.
	b.take(0, live.Of(0))
	b.take(0, live.Of(0))
	if a, _ := b.take(0, live.Of(0)); a != (api.Answer{N: first + 6*128}) || b.own[0].Len(0) != 1 {
		t.Errorf("%v, %v", a, b.own[0].Blocks(0))
	}
}

// P15.2: a run: a Take of so many, whatever it has of its own; its first superblock is had.
func TestRun(t *testing.T) {
	b := open(t, api.Config{Workers: 2, Supers: 6, Batch: 2, Classes: []int{512}})
	b.own[1].Fill(0, 5, 3)
	for i, x := range []struct {
		n    int
		want api.Answer
	}{
		{2, api.Answer{N: first}},
		{5, none},
		{1, api.Answer{N: first + 2*1024}},
		{3, api.Answer{N: first + 3*1024}},
		{1, none},
	} {
		if a, _ := b.take(1, live.Run(x.n)); a != x.want {
			t.Errorf("%d: a run of %d: %v, want %v", i, x.n, a, x.want)
		}
		if e := b.s.Hall.Entries(); len(e) != i+1 || e[i].Worker != 1 || e[i].Op != heart.Take(x.n) {
			t.Errorf("%d: Entries: %v", i, e)
		}
	}
	if l := b.s.Live.All(); !slices.Equal(l, []api.Interval{{At: first, Len: 2048}, {At: first + 2048, Len: 1024}, {At: first + 3072, Len: 3072}}) {
		t.Errorf("live: %v", l)
	}
	if b.own[1].Len(0) != 2 {
		t.Errorf("its own: %v", b.own[1].Blocks(0))
	}
}

// P15.2: where the hall has nothing, nothing is changed, but that it was asked.
func TestNothingThere(t *testing.T) {
	for _, c := range systems(t) {
		b := open(t, c)
		b.take(0, live.Run(c.Supers))
		before := b.picture()
		for _, x := range things(c) {
			if a, _ := b.take(c.Workers-1, x); a != none {
				t.Fatalf("%v: %v: %v", c, x, a)
			}
		}
		behind := b.picture()
		if len(behind.entries) != 1+len(things(c)) {
			t.Errorf("%v: the hall was asked %d times", c, len(behind.entries))
		}
		behind.entries = before.entries
		if !behind.same(before) {
			t.Errorf("%v: something is changed: %v, want %v", c, behind, before)
		}
		// Behind it the worker goes on: what comes back can be had.
		b.back(0, first)
		if a, _ := b.take(c.Workers-1, live.Run(c.Supers)); a != (api.Answer{N: first}) {
			t.Errorf("%v: %v", c, a)
		}
	}
}

// P15.2: each thing that may be, first of all, of each Config.
func TestEachThingFirst(t *testing.T) {
	for _, c := range systems(t) {
		for i, x := range things(c) {
			b := open(t, c)
			if a, _ := b.take(i%c.Workers, x); a != (api.Answer{N: first}) {
				t.Errorf("%v: %v: %v", c, x, a)
			}
			if l := b.s.Live.All(); !slices.Equal(l, []api.Interval{{At: first, Len: x.Size(c)}}) {
				t.Errorf("%v: %v: live are %v", c, x, l)
			}
		}
	}
}

// P15.2: a worker takes up to the last block of all; each comes once, from the first address on.
func TestUntilAllIsTaken(t *testing.T) {
	for _, c := range systems(t) {
		c.Supers = min(c.Supers, 3)
		for class, size := range c.Classes {
			b := open(t, c)
			for super := range c.Supers {
				for i := range 1024 / size {
					if a, _ := b.take(0, live.Of(class)); a != (api.Answer{N: first + 1024*super + size*i}) {
						t.Fatalf("%v: %v of the class %d", c, a, class)
					}
				}
			}
			for worker := range c.Workers {
				if a, _ := b.take(worker, live.Of(class)); a != none {
					t.Errorf("%v: %v of the class %d, of which there is none", c, a, class)
				}
			}
			b.whole()
		}
	}
}

// P15.2: it is marked in the last step, and no sooner; that step asks the hall nothing.
func TestMarkedInTheLastStep(t *testing.T) {
	for _, c := range systems(t) {
		for _, x := range things(c) {
			b := open(t, c)
			m := New(b.s, 0, b.own[0], x)
			n, count := 0, 0
			for over := false; !over; n++ {
				if len(b.s.Live.All()) != 0 {
					t.Fatalf("%v: %v is live ahead of the last step", c, x)
				}
				count = b.s.Hall.Count()
				ops := b.s.Memory.Ops()
				over = b.step(m)
				if b.s.Memory.Ops() != ops+1 {
					t.Fatalf("%v: a step without an access", c)
				}
			}
			if l := b.s.Live.All(); len(l) != 1 || b.s.Hall.Count() != count || count != 1 || n < 2 {
				t.Fatalf("%v: %v: live are %v, the hall was asked %d, %d times, %d steps", c, x, l, count, b.s.Hall.Count(), n)
			}
		}
	}
}

// P15.2: long rows, with things that come back in between, held against a plain reckoning.
func TestLongRows(t *testing.T) {
	for seed, c := range systems(t) {
		next := dice(uint64(seed))
		b := open(t, c)
		all := things(c)
		var have []int
		for n := range 600 {
			worker := next(c.Workers)
			if len(have) > 0 && next(5) < 2 {
				i := next(len(have))
				x, _ := b.s.Live.Look(have[i])
				b.back(worker, have[i])
				if x.Run == 0 {
					b.spill(worker, x.Class)
				}
				have = slices.Delete(have, i, i+1)
				continue
			}
			x := all[next(len(all))]
			if next(3) > 0 {
				x = live.Of(next(len(c.Classes)))
			}
			if a, _ := b.take(worker, x); a.Code == api.OK {
				have = append(have, a.N)
			}
			if n%20 == 0 {
				b.whole()
			}
		}
		b.whole()
	}
}

// P15.3: alone it takes just the hall's steps, and one that marks.
func TestStepsAlone(t *testing.T) {
	for _, c := range systems(t) {
		for _, x := range things(c) {
			op := heart.Refill(x.Class)
			if x.Run > 0 {
				op = heart.Take(x.Run)
			}
			twin := open(t, c)
			call := twin.s.Hall.Call(0, op)
			for !call.Step() {
			}
			if _, n := open(t, c).take(0, x); n != call.Steps()+1 {
				t.Errorf("%v: %v: %d steps, want %d and one", c, x, n, call.Steps())
			}
		}
	}
}

// desk is a worker that takes one thing behind the other.
type desk struct {
	x     live.Thing
	on    *Take
	steps int
	limit int // within how many steps it must be over
}

// crowd is workers who take, in any order; what each asks for is told by next.
type crowd struct {
	*bench
	desks []desk
	next  func(worker int) live.Thing
	found int
	most  int // the most steps that one took
}

func newCrowd(t *testing.T, c api.Config, next func(worker int) live.Thing) *crowd {
	return &crowd{bench: open(t, c), desks: make([]desk, c.Workers), next: next}
}

// pick: a step of a worker; one that does nothing begins something. Is it over?
func (w *crowd) pick(worker int) bool {
	w.t.Helper()
	d := &w.desks[worker]
	if d.on == nil {
		*d = desk{x: w.next(worker), limit: w.bound()}
		if w.own[worker].Len(d.x.Class) > 0 {
			d.limit = 1
		}
		d.on = New(w.s, worker, w.own[worker], d.x)
	}
	d.steps++
	over := w.step(d.on)
	if d.steps > d.limit || d.steps == d.limit && !over {
		w.t.Fatalf("%v: %v isn't over behind %d steps", w.c, d.x, d.steps)
	}
	if over {
		w.end(worker)
	}
	return over
}

// end: what a worker was answered is live from now on, as it was asked for; or nothing is.
func (w *crowd) end(worker int) {
	w.t.Helper()
	d := &w.desks[worker]
	a, _ := d.on.Answer()
	w.most = max(w.most, d.steps)
	d.on = nil
	if a == none {
		return
	}
	w.found++
	if x, ok := w.s.Live.Look(a.N); a.Code != api.OK || !ok || x != d.x {
		w.t.Fatalf("%v: %v, answered %v: live there is %v", w.c, d.x, a, x)
	}
	if l := w.s.Live.All(); len(l) != w.found {
		w.t.Fatalf("%v: %d are live, want %d", w.c, len(l), w.found)
	}
}

// rest: all who do something end it; then each block is in one place.
func (w *crowd) rest() {
	w.t.Helper()
	for i := range w.desks {
		for w.desks[i].on != nil {
			w.pick(i)
		}
	}
	w.whole()
}

// P15.1 to P15.3: many workers, in any order, until nothing is left.
func TestCrowd(t *testing.T) {
	for seed := range uint64(150) {
		next := dice(seed)
		list := systems(t)
		c := list[next(len(list))]
		c.Workers, c.Tries = 1+next(6), next(4)
		all := things(c)
		w := newCrowd(t, c, func(int) live.Thing {
			if next(2) == 0 {
				return all[next(len(all))]
			}
			return live.Of(next(len(c.Classes)))
		})
		long := 1 + next(40)
		for range 60 {
			i := next(c.Workers)
			for range 1 + next(long) {
				w.pick(i)
			}
		}
		w.rest()
	}
}

// P15.3: one stands still, wherever it is; the others go on, within their bound; then it goes on, too.
func TestOneStandsStill(t *testing.T) {
	c := api.Config{Workers: 3, Supers: 4, Batch: 2, Tries: 1, Classes: []int{256, 512}}
	for still := 1; ; still++ {
		w := newCrowd(t, c, func(worker int) live.Thing { return live.Of(worker % 2) })
		stopped := true
		for range still {
			if w.pick(0) {
				stopped = false
				break
			}
		}
		if !stopped {
			break
		}
		for worker := 1; worker < 3; worker++ {
			for n := 0; n < 5; {
				if w.pick(worker) {
					n++
				}
			}
		}
		if w.found == 0 || w.desks[0].on == nil {
			t.Fatalf("%d found while one stood still", w.found)
		}
		w.rest()
	}
}

// P15.3: one that is slow, whom the others pass as often as they can, is over within its bound all the same.
func TestOneIsSlow(t *testing.T) {
	for tries := range 4 {
		c := api.Config{Workers: 2, Supers: 64, Batch: 1, Tries: tries, Classes: []int{512}}
		most := 0
		for fast := 1; fast <= 900; fast += 1 + fast/5 {
			w := newCrowd(t, c, func(int) live.Thing { return live.Of(0) })
			for slow := 0; slow < 2; {
				for range fast {
					w.pick(1)
				}
				if w.pick(0) {
					slow++
				}
			}
			w.rest()
			most = max(most, w.most)
		}
		// Alone it takes an attempt at most: the others came in between.
		if most <= conf.Attempt(2*c.Supers, c.Workers)+4 {
			t.Errorf("%d tries: %d steps at most", tries, most)
		}
	}
}

// P2: the shop and own are used, and nothing else is kept of one that is over: a worker's next one begins anew.
func TestOneBehindTheOther(t *testing.T) {
	b := open(t, api.Config{Workers: 1, Supers: 2, Batch: 2, Classes: []int{512}})
	old := New(b.s, 0, b.own[0], live.Of(0))
	b.finish(old)
	for _, want := range []api.Answer{{N: 66048}, {N: 66560}, {N: 67072}, none} {
		if a, _ := b.take(0, live.Of(0)); a != want {
			t.Errorf("%v, want %v", a, want)
		}
	}
	if a, ok := old.Answer(); a != (api.Answer{N: 65536}) || !ok {
		t.Errorf("the old one: %v, %v", a, ok)
	}
}

// drive: one of which nothing is promised: its calls end, and none panics.
func drive(x *Take) {
	for range 300 {
		x.Answer()
		x.Step()
	}
	x.Answer()
}

// odd are shops that nobody opened.
func odd(t *testing.T) []*ask.Shop {
	t.Helper()
	c := api.Config{Workers: 2, Supers: 2, Batch: 2, Classes: []int{16, 64}}
	s := open(t, c).s
	return []*ask.Shop{
		nil,
		{},
		{Config: c},
		{Config: c, Hall: s.Hall},
		{Config: c, Live: s.Live},
		{Hall: s.Hall, Live: s.Live},
		{Config: api.Config{Supers: math.MaxInt, Classes: []int{-1, 0, math.MaxInt}}, Memory: &mem.Memory{}, Hall: s.Hall, Live: s.Live},
		{Config: c, Memory: mem.New(3), Hall: &hall.Hall{}, Live: &live.Table{}},
		{Config: c, Hall: hall.New(mem.New(200), 0, 2, 1, wild{}), Live: s.Live},
		s,
	}
}

// wild is an object that answers with numbers that no heart has.
type wild struct{}

func (wild) Words() int { return 0 }

func (wild) Apply(_ []uint64, op api.Op) api.Op { return api.Op{A: op.A << 40, B: math.MaxUint64} }

// P1: shops, workers, blocks and things of which nothing is promised: calls end, and none panics.
func TestOfWhatNothingIsPromised(t *testing.T) {
	numbers := []int{math.MinInt, math.MinInt + 1, -1 << 40, -65, -2, -1, 0, 1, 2, 3, 64, 65, 1 << 31, 1 << 32, 1 << 40, math.MaxInt}
	other := api.Config{Workers: 1, Supers: 64, Batch: 64, Classes: []int{32, 48, 512}}
	for _, n := range numbers {
		for _, x := range []live.Thing{live.Of(n), live.Run(n), {Class: n, Run: 1}, {Run: n}, {Class: n, Run: n}, {Class: -2, Run: n}} {
			for _, s := range odd(t) {
				full := stock.New(other)
				full.Fill(0, 63, mask.Low(32))
				full.Fill(2, 63, mask.Low(2))
				for _, own := range []*stock.Stock{nil, {}, stock.New(other), full} {
					drive(New(s, 0, own, x))
					drive(New(s, n, own, x))
				}
			}
		}
	}
	var no *Take
	if a, ok := no.Answer(); !no.Step() || ok || a != (api.Answer{}) {
		t.Errorf("no Take: %v, %v", a, ok)
	}
	drive(&Take{})
}

// P1: a worker that does something else already, of which nothing is promised, is answered nothing that it hasn't.
func TestTwoThingsAtOnce(t *testing.T) {
	b := open(t, api.Config{Workers: 1, Supers: 2, Batch: 2, Classes: []int{512}})
	one := New(b.s, 0, b.own[0], live.Of(0))
	one.Step()
	two := New(b.s, 0, b.own[0], live.Run(1))
	drive(two)
	if a, _ := two.Answer(); a.Code == api.OK && len(b.s.Live.All()) == 0 {
		t.Errorf("answered %v", a)
	}
	drive(one)
	if a, ok := one.Answer(); a != (api.Answer{N: first}) || !ok {
		t.Errorf("the first one: %v, %v", a, ok)
	}
}
