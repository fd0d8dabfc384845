package give

import (
	"maps"
	"slices"
	"testing"

	"chandlery/api"
	"chandlery/conf"
	"chandlery/live"
	"chandlery/take"
)

// desk is a worker that takes and gives, one thing behind the other.
type desk struct {
	on    machine    // nil: it does nothing
	last  machine    // what it did last
	x     live.Thing // what it is to have
	at    int        // where it gives back
	want  api.Answer // what should come of it: known to the crowd from a Give's first step on
	steps int
}

// crowd is workers who take and give, in any order; what each begins is told by next.
type crowd struct {
	*bench
	desks []desk
	next  func(worker int) desk
	most  int // the most steps that a Give took
	spent int // how many Gives are over
}

func newCrowd(t *testing.T, c api.Config, next func(w *crowd, worker int) desk) *crowd {
	w := &crowd{bench: open(t, c), desks: make([]desk, c.Workers)}
	w.next = func(worker int) desk { return next(w, worker) }
	return w
}

// taking, giving: what a worker may begin.
func (w *crowd) taking(worker int, x live.Thing) desk {
	return desk{on: take.New(w.s, worker, w.own[worker], x), x: x}
}

func (w *crowd) giving(worker, at int) desk {
	return desk{on: New(w.s, worker, w.own[worker], at), at: at}
}

// some: one of the addresses at which something is live, and true; false: nothing is.
func (w *crowd) some(next func(int) int) (int, bool) {
	if len(w.there) == 0 {
		return 0, false
	}
	return slices.Sorted(maps.Keys(w.there))[next(len(w.there))], true
}

// pick: a step of a worker; one that does nothing begins something. Is it over?
func (w *crowd) pick(worker int) bool {
	w.t.Helper()
	d := &w.desks[worker]
	if d.on == nil {
		last := d.last
		*d = w.next(worker)
		d.last = last
	}
	d.steps++
	over := w.step(d.on)
	switch m := d.on.(type) {
	case *take.Take:
		if over {
			w.taken(d)
		}
	case *Give:
		w.gave(d, m, over)
	}
	if !over && d.steps >= w.bound() {
		w.t.Fatalf("%v: it isn't over behind %d steps", w.c, d.steps)
	}
	if over {
		d.last, d.on = d.on, nil
	}
	return over
}

// taken: what was answered to a Take lies apart from all that is live, and is so from now on.
func (w *crowd) taken(d *desk) {
	w.t.Helper()
	a, _ := d.on.Answer()
	if a == full {
		return
	}
	if a.Code != api.OK {
		w.t.Fatalf("%v: %v is answered %v", w.c, d.x, a)
	}
	for at, x := range w.there {
		if a.N < at+sizeOf(w.c, x) && at < a.N+sizeOf(w.c, d.x) {
			w.t.Fatalf("%v: %v is answered at %d, and %v is live at %d", w.c, d.x, a.N, x, at)
		}
	}
	w.there[a.N] = d.x
}

// gave: behind its first step a Give has what was live there, and nobody else has it; that is its answer, in its last step.
func (w *crowd) gave(d *desk, g *Give, over bool) {
	w.t.Helper()
	if d.steps == 1 {
		d.want = wrong
		if x, ok := w.there[d.at]; ok {
			d.want = api.Answer{N: sizeOf(w.c, x)}
		}
		delete(w.there, d.at)
	}
	if a, ok := g.Known(); !ok || a != d.want {
		w.t.Fatalf("%v: of %d is known %v, %v, want %v", w.c, d.at, a, ok, d.want)
	}
	if a, _ := g.Answer(); over && a != d.want {
		w.t.Fatalf("%v: of %d came %v, want %v", w.c, d.at, a, d.want)
	}
	if over {
		w.most = max(w.most, d.steps)
		w.spent++
	}
}

// rest: all who do something end it; then each block is in one place.
func (w *crowd) rest() {
	w.t.Helper()
	for i := range w.desks {
		for w.desks[i].on != nil {
			w.pick(i)
		}
	}
	w.whole(true)
	w.liveIs(w.there)
}

// clear: all that is live is given back, and what is of classes is all free, or somebody's own.
func (w *crowd) clear(next func(int) int) {
	w.t.Helper()
	for at, ok := w.some(next); ok; at, ok = w.some(next) {
		w.give(next(w.c.Workers), at)
	}
	w.whole(true)
	for super := range w.c.Supers {
		if s, _ := w.s.Super(super); s.Run != 0 {
			w.t.Fatalf("%v: the superblock %d is of a run still: %v", w.c, super, s)
		}
	}
}

// mixed: a Config for few and many workers, out of all systems.
func mixed(t *testing.T, next func(int) int) api.Config {
	list := systems(t)
	c := list[next(len(list))]
	c.Workers, c.Tries = 1+next(6), next(4)
	return c
}

// P16.1 to P16.3: many workers who take and give, in any order: what is given twice, or isn't live, is told; nothing is lost.
func TestCrowd(t *testing.T) {
	for seed := range uint64(250) {
		next := dice(seed)
		c := mixed(t, next)
		all := things(c)
		w := newCrowd(t, c, func(w *crowd, worker int) desk {
			at, ok := w.some(next)
			switch n := next(12); {
			case n == 0:
				return w.giving(worker, first-64+16*next(64*c.Supers+8))
			case n < 6 && ok:
				return w.giving(worker, at)
			case n < 8:
				return w.taking(worker, all[next(len(all))])
			}
			return w.taking(worker, live.Of(next(min(2, len(c.Classes)))))
		})
		long := 1 + next(60)
		for range 80 {
			i := next(c.Workers)
			for range 1 + next(long) {
				w.pick(i)
			}
			w.whole(false)
		}
		w.rest()
		w.clear(next)
	}
}

// P16.2: many workers give back the same, at the same time: who comes first has it, and nobody else.
func TestAllGiveTheSame(t *testing.T) {
	c := api.Config{Workers: 4, Supers: 3, Batch: 1, Tries: 1, Classes: []int{512}}
	for _, x := range []live.Thing{live.Of(0), live.Run(2)} {
		for winner := range 4 {
			b := open(t, c)
			at := b.take(3, x).N
			l := make([]*Give, 4)
			for i := range l {
				worker := (winner + i) % 4
				l[i] = New(b.s, worker, b.own[worker], at)
			}
			over := make([]bool, 4)
			for i, g := range l {
				over[i] = b.step(g)
				delete(b.there, at)
			}
			for i, g := range l {
				for !over[i] {
					over[i] = b.step(g)
				}
				want := wrong
				if i == 0 {
					want = api.Answer{N: sizeOf(c, x)}
				}
				if a, _ := g.Answer(); a != want {
					t.Errorf("%v: the one that comes as number %d: %v, want %v", x, i, a, want)
				}
			}
			b.whole(true)
			b.liveIs(nil)
		}
	}
}

// byTurns: each worker takes a run, gives it back, and so on: all of it goes through the hall.
func byTurns(w *crowd, worker int) desk {
	if m, ok := w.desks[worker].last.(*take.Take); ok {
		a, _ := m.Answer()
		return w.giving(worker, a.N)
	}
	return w.taking(worker, live.Run(1))
}

// aboutToGive: a crowd whose worker 0 begins to give back a run, or a block with which its own spill.
func aboutToGive(t *testing.T, tries int, x live.Thing) *crowd {
	t.Helper()
	c := api.Config{Workers: 3, Supers: 5, Batch: 1, Tries: tries, Classes: []int{256, 512}}
	w := newCrowd(t, c, byTurns)
	var at []int
	for range 3 {
		at = append(at, w.take(0, x).N)
	}
	w.give(0, at[0])
	w.give(0, at[1])
	w.desks[0] = w.giving(0, at[2])
	return w
}

// P16.3: one stands still, wherever it is; the others go on, within their bound; then it goes on, too.
func TestOneStandsStill(t *testing.T) {
	for tries := range 3 {
		for still := 1; still < conf.Attempt(10, 3); still++ {
			for _, x := range []live.Thing{live.Run(1), live.Of(0)} {
				w := aboutToGive(t, tries, x)
				for range still {
					if w.pick(0) {
						break
					}
				}
				for worker := 1; worker < 3; worker++ {
					for n := 0; n < 6; {
						if w.pick(worker) {
							n++
						}
					}
				}
				w.rest()
				if w.spent != 7 {
					t.Fatalf("%d Gives are over, want 7", w.spent)
				}
			}
		}
	}
}

// P16.3: one that is slow, whom the others pass as often as they can, is over within its bound all the same.
func TestOneIsSlow(t *testing.T) {
	for tries := range 4 {
		c := api.Config{Workers: 3, Supers: 8, Batch: 1, Tries: tries, Classes: []int{512}}
		most := 0
		for fast := 1; fast <= 700; fast += 1 + fast/5 {
			w := newCrowd(t, c, byTurns)
			for slow := 0; slow < 4; {
				for i := range fast {
					w.pick(1 + i%2)
				}
				if w.pick(0) {
					slow++
				}
			}
			w.rest()
			most = max(most, w.most)
		}
		// Alone it takes an attempt at most: the others came in between.
		if most <= conf.Attempt(2*c.Supers, c.Workers)+4 {
			t.Errorf("%d tries: %d steps at most", tries, most)
		}
	}
}
