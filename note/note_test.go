package note

import (
	"math"
	"slices"
	"testing"

	"chandlery/api"
)

// Requests and answers of all kinds; a Book passes over what they say.
var (
	asked    = []api.Request{{}, {Kind: api.Alloc, N: 5}, {Kind: api.Free, N: 65536}, {Kind: api.Usable, N: -1}, {Kind: math.MinInt, N: math.MaxInt}}
	answered = []api.Answer{{}, {N: 65536}, {Code: api.ErrFree}, {Code: api.ErrMemory}, {Code: -7, N: math.MinInt}}
	workers  = []int{0, 1, 2, 63, 64, -1, math.MinInt, math.MaxInt}
)

// dice: numbers by a rule, the same in every run.
func dice(seed uint64) func(n int) int {
	return func(n int) int {
		seed = seed*6364136223846793005 + 1442695040888963407
		return int(seed >> 33 % uint64(n))
	}
}

// plain is a Book without anything clever: which event didn't end is looked for among all.
type plain []api.Event

// at: the worker's event that didn't end; -1: there is none.
func (p plain) at(worker int) int {
	return slices.IndexFunc(p, func(e api.Event) bool { return e.Worker == worker && e.End == 0 })
}

// open: what Open should answer.
func (p plain) open(worker int) (api.Event, bool) {
	if i := p.at(worker); i >= 0 {
		return p[i], true
	}
	return api.Event{}, false
}

// same: all that a Book tells is as it should be.
func same(t *testing.T, b *Book, want plain) {
	t.Helper()
	if l := b.Events(); !slices.Equal(l, want) {
		t.Fatalf("Events: %v, want %v", l, want)
	}
	for _, worker := range workers {
		e, ok := b.Open(worker)
		if x, there := want.open(worker); e != x || ok != there {
			t.Fatalf("Open(%d): %v, %v, want %v, %v", worker, e, ok, x, there)
		}
	}
}

// The chapter's example.
func TestExample(t *testing.T) {
	var b Book
	if !b.Begin(0, asked[1], 1) || b.Begin(0, asked[1], 2) || b.Begin(0, asked[2], 2) {
		t.Error("Begin")
	}
	same(t, &b, plain{{Request: asked[1], Begin: 1}})
}

// P18.1, P18.2: the zero Book has no event, and nobody does anything.
func TestZero(t *testing.T) {
	for _, worker := range workers {
		var b Book
		if b.Step(worker) || b.Count(worker, answered[1], 1) || b.End(worker, answered[1], 1) {
			t.Errorf("the worker %d does something", worker)
		}
		same(t, &b, nil)
	}
}

// P18.1, P18.2: one event, from its beginning to its end, with what is refused on its way.
func TestOneEvent(t *testing.T) {
	for _, worker := range workers {
		var b Book
		e := api.Event{Worker: worker, Request: asked[1], Begin: 3}
		tell := func(want, got bool) {
			t.Helper()
			if got != want {
				t.Errorf("the worker %d: %v, want %v", worker, got, want)
			}
			same(t, &b, plain{e})
		}
		tell(true, b.Begin(worker, asked[1], 3))
		tell(false, b.Begin(worker, asked[2], 4))
		e.Steps = 1
		tell(true, b.Step(worker))
		e.Steps = 2
		tell(true, b.Step(worker))
		e.Answer, e.Point = answered[1], 5
		tell(true, b.Count(worker, answered[1], 5))
		tell(false, b.Count(worker, answered[2], 6))
		tell(false, b.Count(worker, answered[1], 5))
		tell(false, b.Begin(worker, asked[1], 6))
		e.Steps = 3
		tell(true, b.Step(worker))
		e.Answer, e.End = answered[2], 9
		tell(true, b.End(worker, answered[2], 9))
		tell(false, b.End(worker, answered[1], 10))
		tell(false, b.Step(worker))
		tell(false, b.Count(worker, answered[1], 10))
	}
}

// P18.1: what didn't count may end; then it never counts. What counts with the zero answer counts, too.
func TestEndWithoutCount(t *testing.T) {
	var b Book
	b.Begin(1, asked[1], 1)
	if !b.End(1, answered[3], 4) || b.Count(1, answered[3], 4) {
		t.Error("End without Count")
	}
	b.Begin(2, asked[2], 1)
	if !b.Count(2, api.Answer{}, 1) || b.Count(2, answered[1], 2) || !b.End(2, api.Answer{}, 1) {
		t.Error("Count with the zero answer")
	}
	same(t, &b, plain{
		{Worker: 1, Request: asked[1], Answer: answered[3], Begin: 1, End: 4},
		{Worker: 2, Request: asked[2], Begin: 1, Point: 1, End: 1},
	})
}

// P18.1: an event that is all in one step, and one without steps; behind an end another one may begin at once, at any step.
func TestBeginBehindEnd(t *testing.T) {
	var b Book
	var want plain
	for n := range 50 {
		r, a := asked[n%len(asked)], answered[n%len(answered)]
		step := 1 + n*7%13
		if !b.Begin(5, r, step) || !b.Count(5, a, step) || n%2 == 0 && !b.Step(5) || !b.End(5, a, step) {
			t.Fatalf("the event %d", n)
		}
		want = append(want, api.Event{Worker: 5, Request: r, Answer: a, Steps: 1 - n%2, Begin: step, Point: step, End: step})
	}
	if l := b.Events(); !slices.Equal(l, want) {
		t.Errorf("Events: %v, want %v", l, want)
	}
	same(t, &b, want)
}

// P18.2: the order is that in which they began, whatever worker, step, or end.
func TestOrder(t *testing.T) {
	var b Book
	var want plain
	for i, worker := range workers {
		step := 100 - 9*i
		b.Begin(worker, asked[i%len(asked)], step)
		want = append(want, api.Event{Worker: worker, Request: asked[i%len(asked)], Begin: step})
	}
	same(t, &b, want)
	for i := range workers {
		k := (i*3 + 1) % len(workers)
		b.End(workers[k], answered[i%len(answered)], 200+i)
		want[k].Answer, want[k].End = answered[i%len(answered)], 200+i
		same(t, &b, want)
	}
	b.Begin(workers[4], asked[1], 1)
	same(t, &b, append(want, api.Event{Worker: workers[4], Request: asked[1], Begin: 1}))
}

// P18.1: what one worker does touches no other's event.
func TestOthersEvents(t *testing.T) {
	for _, one := range workers {
		var b Book
		var want plain
		for _, worker := range workers {
			if worker != one {
				b.Begin(worker, asked[1], 1)
				want = append(want, api.Event{Worker: worker, Request: asked[1], Begin: 1})
			}
		}
		if b.Step(one) || b.Count(one, answered[1], 2) || b.End(one, answered[1], 3) {
			t.Errorf("the worker %d has an event", one)
		}
		same(t, &b, want)
	}
}

// P18.1, P18.2: long rows of calls, held against a plain row of events.
func TestLongRows(t *testing.T) {
	for seed := range uint64(40) {
		next := dice(seed)
		var b Book
		var want plain
		few := workers[:1+next(len(workers))]
		for step := 1; step < 250; step++ {
			worker, r, a := few[next(len(few))], asked[next(len(asked))], answered[next(len(answered))]
			i := want.at(worker)
			var got, should bool
			switch next(4) {
			case 0:
				got, should = b.Begin(worker, r, step), i < 0
				if should {
					want = append(want, api.Event{Worker: worker, Request: r, Begin: step})
				}
			case 1:
				got, should = b.Step(worker), i >= 0
				if should {
					want[i].Steps++
				}
			case 2:
				got, should = b.Count(worker, a, step), i >= 0 && want[i].Point == 0
				if should {
					want[i].Answer, want[i].Point = a, step
				}
			case 3:
				got, should = b.End(worker, a, step), i >= 0
				if should {
					want[i].Answer, want[i].End = a, step
				}
			}
			if got != should {
				t.Fatalf("the worker %d at %d: %v, want %v", worker, step, got, should)
			}
			same(t, &b, want)
		}
	}
}

// P2: what is answered is new: who changes it changes no event; and it stays as it was when it was answered.
func TestListsOfTheirOwn(t *testing.T) {
	var b Book
	b.Begin(1, asked[1], 1)
	b.Begin(2, asked[2], 2)
	l := b.Events()
	l[0] = api.Event{Worker: 9}
	_ = append(l, api.Event{Worker: 9})
	_ = append(l[:1], api.Event{Worker: 9})
	b.Begin(3, asked[1], 3)
	want := plain{
		{Worker: 1, Request: asked[1], Begin: 1},
		{Worker: 2, Request: asked[2], Begin: 2},
		{Worker: 3, Request: asked[1], Begin: 3},
	}
	same(t, &b, want)
	l, e := b.Events(), want[0]
	got, _ := b.Open(1)
	b.Step(1)
	b.Count(1, answered[1], 4)
	b.End(1, answered[1], 4)
	if got != e || !slices.Equal(l, want) {
		t.Errorf("what was answered is %v, %v", got, l)
	}
}

// P18.2: two Books have nothing of each other.
func TestTwoBooks(t *testing.T) {
	var one, other Book
	one.Begin(0, asked[1], 1)
	if !other.Begin(0, asked[2], 7) || !one.End(0, answered[1], 2) {
		t.Error("one is the other")
	}
	same(t, &one, plain{{Request: asked[1], Answer: answered[1], Begin: 1, End: 2}})
	same(t, &other, plain{{Request: asked[2], Begin: 7}})
}

// P18.1: very many events, of very many workers, are written down without looking through them all.
func TestMany(t *testing.T) {
	var b Book
	const many = 200000
	for n := range many {
		if !b.Begin(n, asked[1], n+1) {
			t.Fatalf("the worker %d", n)
		}
	}
	for n := range many {
		if !b.Step(n) || !b.Count(n, answered[1], many+n) || !b.End(n, answered[1], many+n) {
			t.Fatalf("the worker %d", n)
		}
	}
	l := b.Events()
	for n, e := range l {
		if e.Worker != n || e.Begin != n+1 || e.End != many+n {
			t.Fatalf("the event %d: %v", n, e)
		}
	}
	if len(l) != many {
		t.Errorf("%d events", len(l))
	}
}

// P1: steps of which nothing is promised, and no Book: calls end, and none panics.
func TestOfWhatNothingIsPromised(t *testing.T) {
	for _, step := range []int{0, -1, math.MinInt, math.MaxInt} {
		var b Book
		for _, worker := range workers {
			for range 3 {
				b.Begin(worker, asked[1], step)
				b.Step(worker)
				b.Count(worker, answered[1], step)
				b.Count(worker, answered[2], step)
				b.End(worker, answered[1], step)
				b.End(worker, answered[2], step)
				b.Open(worker)
				b.Events()
			}
		}
	}
	var no *Book
	if no.Begin(0, asked[1], 1) || no.Step(0) || no.Count(0, answered[1], 1) || no.End(0, answered[1], 1) || len(no.Events()) != 0 {
		t.Error("no Book has an event")
	}
	if e, ok := no.Open(0); ok || e != (api.Event{}) {
		t.Errorf("no Book: %v, %v", e, ok)
	}
}
