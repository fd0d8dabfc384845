package pace

import (
	"fmt"
	"math"
	"slices"
	"testing"

	"chandlery/api"
	"chandlery/conf"
	"chandlery/yard"
)

// first is the first address of all.
const first = 65536

// odds are numbers that are no worker.
var odds = []int{math.MinInt, math.MinInt + 1, -1 << 32, -64, -1, 64, 65, 1 << 32, math.MaxInt - 1, math.MaxInt}

// dice: numbers by a rule, the same in every run.
func dice(seed uint64) func(n int) int {
	return func(n int) int {
		seed = seed*6364136223846793005 + 1442695040888963407
		return int(seed >> 33 % uint64(n))
	}
}

// systems: few and many workers, superblocks, blocks of a batch, tries and classes.
func systems() []api.Config {
	return []api.Config{
		{Workers: 1, Supers: 1, Batch: 1, Classes: []int{16}},
		{Workers: 2, Supers: 1, Batch: 1, Classes: []int{512}},
		{Workers: 3, Supers: 4, Batch: 1, Tries: 2, Classes: []int{48, 336, 496}},
		{Workers: 5, Supers: 7, Batch: 3, Tries: 8, Classes: []int{32, 64, 128}},
		{Workers: 64, Supers: 64, Batch: 2, Classes: []int{256, 512}},
	}
}

// alloc, free: what a worker may be asked for.
func alloc(size int) api.Request { return api.Request{Kind: api.Alloc, N: size} }

func free(at int) api.Request { return api.Request{Kind: api.Free, N: at} }

// open: a new Yard.
func open(t *testing.T, c api.Config) *yard.Yard {
	t.Helper()
	y, e := yard.New(c)
	if e != api.OK {
		t.Fatalf("%v: New: %d", c, e)
	}
	return y
}

// ask: workers are asked for this and that, some of them for much, one for nothing.
func ask(y *yard.Yard, seed uint64) {
	next := dice(seed)
	workers := y.Config().Workers
	for worker := range workers {
		for range next(8) {
			y.Ask(worker, []api.Request{alloc(1 + next(600)), alloc(1024), free(first + 16*next(20)), {Kind: next(9) - 3, N: 300}}[next(4)])
		}
	}
}

// two: two Yards of which the same was asked.
func two(t *testing.T, c api.Config, seed uint64) (*yard.Yard, *yard.Yard) {
	t.Helper()
	one, other := open(t, c), open(t, c)
	ask(one, seed)
	ask(other, seed)
	return one, other
}

// same: both tell the same.
func same(t *testing.T, y, want *yard.Yard) {
	t.Helper()
	if got, want := told(y), told(want); got != want {
		t.Fatalf("%s, want %s", got, want)
	}
}

// told: what a Yard tells, in words.
func told(y *yard.Yard) string {
	l := []any{y.Config(), y.Clock(), y.Accesses(), y.Quiet(), y.Events(), y.Entries(), y.Live()}
	for worker := range y.Config().Workers {
		l = append(l, y.Queue(worker), y.Idle(worker))
	}
	return fmt.Sprint(l...)
}

// rounds: so many rounds, pick by pick; how many of them answered true.
func rounds(y *yard.Yard, n int) int {
	steps := 0
	for range n {
		for worker := range y.Config().Workers {
			if y.Pick(worker) {
				steps++
			}
		}
	}
	return steps
}

// finished: rounds, pick by pick, until all are idle; how many steps that were.
func finished(y *yard.Yard) int {
	start := y.Clock()
	for !y.Quiet() {
		rounds(y, 1)
	}
	return y.Clock() - start
}

// The chapter's example.
func TestExample(t *testing.T) {
	y := open(t, api.Config{Workers: 2, Supers: 1, Batch: 1, Classes: []int{512}})
	if n := Finish(y); n != 0 || y.Clock() != 0 {
		t.Errorf("Finish: %d, behind %d", n, y.Clock())
	}
}

// P20.1: rounds of Picks, from the worker 0 on, and how many steps they were, whether all, some, or none are idle.
func TestTurns(t *testing.T) {
	for i, c := range systems() {
		y, want := two(t, c, uint64(i+1))
		for _, n := range []int{1, 0, 2, 7, -1, 30, math.MinInt, 500} {
			if got, steps := Turns(y, n), rounds(want, n); got != steps {
				t.Errorf("%v: Turns(%d): %d, want %d", c, n, got, steps)
			}
			same(t, y, want)
			if n == 30 {
				ask(y, 9)
				ask(want, 9)
			}
		}
	}
}

// P20.1: each worker in its turn: by the steps at which they began.
func TestTurnsByHand(t *testing.T) {
	y := open(t, api.Config{Workers: 3, Supers: 1, Batch: 1, Classes: []int{512}})
	y.Ask(2, alloc(0), alloc(0), alloc(0))
	y.Ask(0, alloc(0))
	y.Ask(1, alloc(0), alloc(0))
	if n := Turns(y, 2); n != 5 {
		t.Errorf("Turns: %d", n)
	}
	var workers []int
	for i, e := range y.Events() {
		workers = append(workers, e.Worker)
		if e.Begin != i+1 {
			t.Errorf("the event %d: %v", i, e)
		}
	}
	if !slices.Equal(workers, []int{0, 1, 2, 1, 2}) || len(y.Queue(2)) != 1 {
		t.Errorf("the workers %v, and one has %v", workers, y.Queue(2))
	}
}

// P20.1: however many rounds there are to be, it ends when all are idle.
func TestTurnsEnd(t *testing.T) {
	for i, c := range systems() {
		for _, n := range []int{1 << 40, math.MaxInt - 1, math.MaxInt} {
			y, want := two(t, c, uint64(i+1))
			if got := Turns(y, n); got != finished(want) || !y.Quiet() || Turns(y, n) != 0 {
				t.Errorf("%v: Turns(%d): %d steps", c, n, got)
			}
			same(t, y, want)
		}
	}
}

// P20.1: the steps are that worker's alone, until it is idle; another one may stand still in the midst of whatever.
func TestAlone(t *testing.T) {
	for i, c := range systems() {
		for still := 0; still < 50; still += 3 {
			y, want := two(t, c, uint64(i+7))
			if n := Turns(y, still); n != rounds(want, still) {
				t.Fatalf("%v: Turns(%d): %d", c, still, n)
			}
			for worker := c.Workers - 1; worker >= 0; worker-- {
				steps := 0
				for want.Pick(worker) {
					steps++
				}
				if n := Alone(y, worker); n != steps || !y.Idle(worker) || Alone(y, worker) != 0 {
					t.Fatalf("%v: Alone(%d): %d, want %d", c, worker, n, steps)
				}
				same(t, y, want)
			}
		}
	}
}

// P20.1: of a worker that there isn't there is no step.
func TestNoSuchWorker(t *testing.T) {
	for i, c := range systems() {
		y, want := two(t, c, uint64(i+1))
		Turns(y, 5)
		rounds(want, 5)
		for _, worker := range append(slices.Clone(odds), c.Workers) {
			if n := Alone(y, worker); n != 0 {
				t.Errorf("%v: Alone(%d): %d", c, worker, n)
			}
			if n := Picks(y, worker, worker); n != 0 {
				t.Errorf("%v: Picks(%d): %d", c, worker, n)
			}
		}
		same(t, y, want)
	}
}

// P20.1: all in turns, until all are idle, from whatever they do on.
func TestFinish(t *testing.T) {
	for i, c := range systems() {
		for still := range 20 {
			y, want := two(t, c, uint64(i+3))
			Picks(y, make([]int, still)...)
			for range still {
				want.Pick(0)
			}
			if n, steps := Finish(y), finished(want); n != steps || !y.Quiet() {
				t.Fatalf("%v: Finish: %d, want %d", c, n, steps)
			}
			same(t, y, want)
			if n := Finish(y); n != 0 {
				t.Errorf("%v: Finish again: %d", c, n)
			}
			ask(y, 5)
			ask(want, 5)
			if n, steps := Finish(y), finished(want); n != steps {
				t.Fatalf("%v: Finish of more: %d, want %d", c, n, steps)
			}
			same(t, y, want)
		}
	}
}

// P20.1: a Pick of each number, in order, those that are no worker's and the idle ones passed over; the list is neither kept nor changed.
func TestPicks(t *testing.T) {
	for i, c := range systems() {
		next := dice(uint64(i))
		y, want := two(t, c, uint64(i+11))
		for range 40 {
			var l []int
			for range next(30) {
				l = append(l, []int{next(c.Workers), next(c.Workers), odds[next(len(odds))], c.Workers}[next(4)])
			}
			kept, steps := slices.Clone(l), 0
			for _, worker := range l {
				if want.Pick(worker) {
					steps++
				}
			}
			if n := Picks(y, l...); n != steps || !slices.Equal(l, kept) {
				t.Fatalf("%v: Picks(%v): %d, want %d", c, kept, n, steps)
			}
			same(t, y, want)
		}
	}
	y := open(t, api.Config{Workers: 2, Supers: 1, Batch: 1, Classes: []int{512}})
	y.Ask(0, alloc(0), alloc(0))
	y.Ask(1, alloc(0))
	if n := Picks(y); n != 0 {
		t.Errorf("Picks of none: %d", n)
	}
	if n := Picks(y, 0, 2, -1, 0, 0, 1, 1); n != 3 {
		t.Errorf("Picks: %d", n)
	}
	if l := y.Events(); len(l) != 3 || l[0].Worker != 0 || l[1].Worker != 0 || l[2].Worker != 1 {
		t.Errorf("Picks: %v", l)
	}
}

// P20.2: the greatest Steps, wherever it stands; 0, if none is above 0.
func TestMost(t *testing.T) {
	for _, x := range []struct {
		steps []int
		want  int
	}{
		{nil, 0},
		{[]int{0}, 0},
		{[]int{-1}, 0},
		{[]int{math.MinInt, -5, -1}, 0},
		{[]int{7}, 7},
		{[]int{3, 1, 2}, 3},
		{[]int{1, 3, 2}, 3},
		{[]int{1, 2, 3}, 3},
		{[]int{-9, 4, -20, 4}, 4},
		{[]int{1, math.MaxInt, math.MaxInt - 1}, math.MaxInt},
	} {
		var l []api.Event
		for _, n := range x.steps {
			// All else that an event tells is no matter.
			l = append(l, api.Event{Worker: 90, Steps: n, Begin: 100, Point: 200, End: 300})
		}
		kept := slices.Clone(l)
		if got := Most(l); got != x.want || !slices.Equal(l, kept) {
			t.Errorf("Most of %v: %d, want %d", x.steps, got, x.want)
		}
	}
}

// P20.2: it is always Within, at any time, whoever steps how often; and looking is no step.
func TestWithin(t *testing.T) {
	for seed := range uint64(40) {
		next := dice(seed)
		c := systems()[next(len(systems()))]
		c.Tries = next(4)
		y := open(t, c)
		fast := 1 + next(300)
		for range 8 {
			ask(y, uint64(next(1000)))
			for range 1 + next(fast) {
				y.Pick(next(c.Workers))
			}
			Picks(y, next(c.Workers), next(c.Workers))
			before := told(y)
			if most := Most(y.Events()); !Within(y) || most > conf.Bound(c) {
				t.Fatalf("%v: %d steps, the bound is %d", c, most, conf.Bound(c))
			}
			if told(y) != before {
				t.Fatalf("%v: Within did something", c)
			}
		}
		Finish(y)
		if !Within(y) {
			t.Fatalf("%v: Finish: %d steps", c, Most(y.Events()))
		}
	}
	if !Within(open(t, systems()[0])) {
		t.Error("a Yard in which nothing happened")
	}
}

// P1: of no Yard, and of one that New didn't make, nothing is promised, but that calls end, and none panics.
func TestOfWhatNothingIsPromised(t *testing.T) {
	for _, y := range []*yard.Yard{nil, {}} {
		for _, n := range append(slices.Clone(odds), 0, 1) {
			if Turns(y, n) != 0 || Alone(y, n) != 0 || Picks(y, n, n) != 0 {
				t.Errorf("%d: there were steps", n)
			}
		}
		if Finish(y) != 0 || !Within(y) {
			t.Error("Finish, Within")
		}
	}
}
