package yard

import (
	"slices"
	"testing"

	"chandlery/api"
	"chandlery/ask"
	"chandlery/conf"
	"chandlery/hand"
	"chandlery/note"
)

// mixed: a Config for few workers, of whom many find no room.
func mixed(next func(int) int) api.Config {
	return api.Config{
		Workers: 1 + next(5),
		Supers:  1 + next(3),
		Batch:   1 + next(3),
		Tries:   next(3),
		Classes: [][]int{{512}, {256, 512}, {16, 496}}[next(3)],
	}
}

// any: something that a worker may be asked for, sensible or not.
func (w *watch) any(next func(int) int) api.Request {
	at := first - 64 + 8*next(128*w.c.Supers+16)
	if l := w.Live(); len(l) > 0 && next(5) > 0 {
		at = l[next(len(l))].At
	}
	switch n := next(20); {
	case n < 5:
		return free(at)
	case n < 7:
		return usable(at)
	case n == 7:
		return alloc(next(1024*w.c.Supers+200) - 100)
	case n == 8:
		return api.Request{Kind: next(9) - 3, N: at}
	}
	return alloc([]int{512, 1024}[next(2)])
}

// P19.2 to P19.4, P22.4: many workers who are asked for all kinds of things step in any order: at any time what is written
// down is what was done, and all of it might have been done by one worker alone.
func TestCrowd(t *testing.T) {
	others, early := 0, 0
	for seed := range uint64(150) {
		next := dice(seed)
		w := open(t, mixed(next))
		long := 1 + next(40)
		for range 60 {
			worker := next(w.c.Workers)
			for range next(3) {
				w.ask(worker, w.any(next))
			}
			for range 1 + next(long) {
				w.pick(worker)
			}
			w.written()
			w.replayed()
			for _, e := range w.Events() {
				if e.End == 0 && e.Answer == full {
					early++
				}
			}
		}
		w.rest()
		w.written()
		w.replayed()
		for _, e := range w.Events() {
			if e.Answer == full && w.who[e.Point-1] != e.Worker {
				others++
			}
			if e.Point == 0 || e.End == 0 || e.Steps > conf.Bound(w.c) {
				t.Fatalf("%v: %v, all ended within %d steps", w.c, e, conf.Bound(w.c))
			}
		}
	}
	if others < 20 || early < 20 {
		t.Errorf("%d found no room in another one's step, %d were seen ahead of their end", others, early)
	}
}

// twin is a system made of the layers below alone, whose Book is written step by step.
type twin struct {
	s     *ask.Shop
	hands []*hand.Hand
	book  note.Book
	clock int
	seen  int // how many of the hall's entries
}

func double(t *testing.T, c api.Config) *twin {
	t.Helper()
	s, e := ask.Open(c)
	if e != api.OK {
		t.Fatalf("%v: Open: %d", c, e)
	}
	w := &twin{s: s}
	for worker := range c.Workers {
		w.hands = append(w.hands, hand.New(s, worker))
	}
	return w
}

// pick: the same step of the twin.
func (w *twin) pick(worker int) bool {
	p := w.hands[worker].Step()
	if !p.Stepped {
		return false
	}
	w.clock++
	if p.Began {
		w.book.Begin(worker, p.Request, w.clock)
	}
	w.book.Step(worker)
	if p.Counts {
		w.book.Count(worker, p.Answer, w.clock)
	}
	for _, e := range w.s.Hall.Entries()[w.seen:] {
		if w.seen++; e.Answer == (api.Op{}) {
			w.book.Count(e.Worker, full, w.clock)
		}
	}
	if p.Ended {
		w.book.End(worker, p.Answer, w.clock)
	}
	return true
}

// P19.1 to P19.4: step by step it is just what the layers below are.
func TestAsTheLayersBelow(t *testing.T) {
	for seed := range uint64(60) {
		next := dice(seed)
		w := open(t, mixed(next))
		x := double(t, w.c)
		long := 1 + next(40)
		for range 40 {
			worker := next(w.c.Workers)
			l := []api.Request{w.any(next), w.any(next)}
			w.ask(worker, l...)
			x.hands[worker].Ask(l...)
			for range 1 + next(long) {
				if w.pick(worker) != x.pick(worker) {
					t.Fatalf("%v: Pick(%d)", w.c, worker)
				}
				w.same(x)
			}
		}
	}
}

// same: all that is told is as the twin tells it.
func (w *watch) same(x *twin) {
	w.t.Helper()
	if l := w.Events(); !slices.Equal(l, x.book.Events()) || w.Clock() != x.clock {
		w.t.Fatalf("%v: Events at %d: %v, want %v", w.c, w.Clock(), l, x.book.Events())
	}
	if w.Accesses() != x.s.Memory.Ops() || !slices.Equal(w.Entries(), x.s.Hall.Entries()) || !slices.Equal(w.Live(), x.s.Live.All()) {
		w.t.Fatalf("%v: %d accesses, Entries %v, Live %v", w.c, w.Accesses(), w.Entries(), w.Live())
	}
	for i := -1; i <= w.c.Supers; i++ {
		s, ok := w.Super(i)
		if want, there := x.s.Super(i); s != want || ok != there {
			w.t.Fatalf("%v: Super(%d): %v, %v, want %v, %v", w.c, i, s, ok, want, there)
		}
	}
	quiet := true
	for worker, h := range x.hands {
		quiet = quiet && h.Idle()
		if w.Idle(worker) != h.Idle() || !slices.Equal(w.Queue(worker), h.Queue()) {
			w.t.Fatalf("%v: the worker %d: %v, %v", w.c, worker, w.Idle(worker), w.Queue(worker))
		}
		for class := -1; class <= len(w.c.Classes); class++ {
			if l := w.Own(worker, class); !slices.Equal(l, h.Own(class)) {
				w.t.Fatalf("%v: Own(%d, %d): %v, want %v", w.c, worker, class, l, h.Own(class))
			}
		}
	}
	if w.Quiet() != quiet {
		w.t.Fatalf("%v: Quiet is %v", w.c, w.Quiet())
	}
}

// P19.2: one that stands still, at each step in turn, keeps nobody waiting.
func TestOneStandsStill(t *testing.T) {
	for tries := range 3 {
		for still := range 80 {
			w := open(t, api.Config{Workers: 3, Supers: 2, Batch: 1, Tries: tries, Classes: []int{512}})
			for worker := range 3 {
				for range 3 {
					w.ask(worker, alloc(512), alloc(1024), free(first))
				}
			}
			for range still {
				w.pick(0)
			}
			w.alone(1)
			w.alone(2)
			w.written()
			w.replayed()
			for _, e := range w.Events() {
				if e.Steps > conf.Bound(w.c) || e.Worker > 0 && e.End == 0 {
					t.Fatalf("%v: %v", w.c, e)
				}
			}
			w.rest()
			w.written()
			w.replayed()
		}
	}
}
