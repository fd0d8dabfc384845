package hand

import (
	"slices"
	"testing"

	"chandlery/api"
	"chandlery/ask"
	"chandlery/conf"
	"chandlery/give"
	"chandlery/stock"
	"chandlery/take"
)

// mixed: a Config for few and many workers, out of all systems.
func mixed(t *testing.T, next func(int) int) api.Config {
	list := systems(t)
	c := list[next(len(list))]
	c.Workers, c.Tries = 1+next(6), next(4)
	return c
}

// any: something that a worker may be asked for, sensible or not.
func (b *bench) any(next func(int) int) api.Request {
	around := first - 64 + 8*next(128*b.c.Supers+16)
	at, ok := b.some(next)
	if !ok {
		at = around
	}
	switch n := next(20); {
	case n < 6:
		return free(at)
	case n == 6:
		return free(around)
	case n == 7:
		return usable(at)
	case n == 8:
		return usable(around)
	case n == 9:
		return alloc(next(1024*b.c.Supers+200) - 100)
	case n == 10:
		return api.Request{Kind: next(9) - 3, N: at}
	}
	return alloc(b.c.Classes[next(min(2, len(b.c.Classes)))])
}

// P17.2 to P17.4: many workers who are asked for all kinds of things, ahead and in between, and step in any order.
func TestCrowd(t *testing.T) {
	for seed := range uint64(250) {
		next := dice(seed)
		b := open(t, mixed(t, next))
		long := 1 + next(60)
		for range 90 {
			worker := next(b.c.Workers)
			for range next(3) {
				b.ask(worker, b.any(next))
			}
			for range 1 + next(long) {
				b.pick(worker)
			}
		}
		b.rest()
		b.clear(next)
	}
}

// machine is what a worker does in the layers below.
type machine interface {
	Step() bool
	Answer() (api.Answer, bool)
}

// twin is a worker made of the layers below alone.
type twin struct {
	s   *ask.Shop
	own *stock.Stock
	on  machine // nil: it does nothing
}

// step: the same step of the twin: is it over, and what came of it?
func (w *twin) step(worker int, p Progress) (bool, api.Answer) {
	if w.on == nil {
		x, e := ask.Check(w.s.Config, p.Request)
		if e != api.OK {
			return true, api.Answer{Code: e}
		}
		switch p.Request.Kind {
		case api.Usable:
			return true, give.Usable(w.s, p.Request.N)
		case api.Free:
			w.on = give.New(w.s, worker, w.own, p.Request.N)
		case api.Alloc:
			w.on = take.New(w.s, worker, w.own, x)
		}
	}
	over := w.on.Step()
	a, _ := w.on.Answer()
	if g, ok := w.on.(*give.Give); ok {
		a, _ = g.Known()
	}
	if over {
		w.on = nil
	}
	return over, a
}

// P17.2: step by step it is just what the layers below do, with the same accesses, and the same blocks of its own.
func TestAsTheLayersBelow(t *testing.T) {
	for seed := range uint64(120) {
		next := dice(seed)
		b := open(t, mixed(t, next))
		s, _ := ask.Open(b.c)
		twins := make([]twin, b.c.Workers)
		for i := range twins {
			twins[i] = twin{s: s, own: stock.New(b.c)}
		}
		long := 1 + next(40)
		for range 60 {
			worker := next(b.c.Workers)
			w := &twins[worker]
			b.ask(worker, b.any(next), b.any(next))
			for range 1 + next(long) {
				p := b.pick(worker)
				if !p.Stepped {
					break
				}
				over, a := w.step(worker, p)
				if p.Ended != over || p.Answer != a || b.s.Memory.Last() != s.Memory.Last() || b.s.Memory.Ops() != s.Memory.Ops() {
					t.Fatalf("%v: %v, want %v, %v; %v, want %v", b.c, p, over, a, b.s.Memory.Last(), s.Memory.Last())
				}
			}
			for class := range b.c.Classes {
				if l := b.desks[worker].Own(class); !slices.Equal(l, w.own.Blocks(class)) {
					t.Fatalf("%v: its own are %v, want %v", b.c, l, w.own.Blocks(class))
				}
			}
		}
		if !slices.Equal(b.s.Memory.Words(), s.Memory.Words()) || !slices.Equal(b.s.Hall.Entries(), s.Hall.Entries()) {
			t.Fatalf("%v: the shops differ", b.c)
		}
	}
}

// byTurns: a worker is asked for a block, and, when it has one, to give it back; blocks go to and fro between its own and all.
func (b *bench) byTurns(worker int, last *Progress) {
	b.t.Helper()
	if b.desks[worker].Idle() {
		r := alloc(1024)
		if last.Request.Kind == api.Alloc && last.Answer.Code == api.OK && last.Ended {
			r = free(last.Answer.N)
		}
		b.ask(worker, r)
	}
	*last = b.pick(worker)
}

// P17.4: one that stands still, at each step in turn, keeps nobody waiting; when it steps again, it goes on.
func TestOneStandsStill(t *testing.T) {
	for tries := range 3 {
		for still := 1; still < 2*conf.Attempt(8, 3); still++ {
			b := open(t, api.Config{Workers: 3, Supers: 4, Batch: 1, Tries: tries, Classes: []int{512}})
			last := make([]Progress, 3)
			for range still {
				b.byTurns(0, &last[0])
			}
			before := b.spent
			for worker := 1; worker < 3; worker++ {
				for range 4 * conf.Bound(b.c) {
					b.byTurns(worker, &last[worker])
				}
			}
			// Of four bounds' steps none was waited, so four things are over at least.
			if b.spent < before+8 {
				t.Fatalf("%v: %d things are over", b.c, b.spent-before)
			}
			b.rest()
		}
	}
}

// P17.4: one that is slow, whom the others pass as often as they can, is over within the bound all the same.
func TestOneIsSlow(t *testing.T) {
	for tries := range 4 {
		c := api.Config{Workers: 3, Supers: 8, Batch: 1, Tries: tries, Classes: []int{512}}
		most := 0
		for fast := 1; fast <= 700; fast += 1 + fast/5 {
			b := open(t, c)
			last := make([]Progress, 3)
			for slow := 0; slow < 4; {
				for i := range fast {
					b.byTurns(1+i%2, &last[1+i%2])
				}
				if b.byTurns(0, &last[0]); last[0].Ended {
					slow++
				}
			}
			b.rest()
			most = max(most, b.most)
		}
		// Alone it takes an attempt at most: the others came in between.
		if most <= conf.Attempt(2*c.Supers, c.Workers)+4 {
			t.Errorf("%d tries: %d steps at most", tries, most)
		}
	}
}
