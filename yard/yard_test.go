package yard

import (
	"fmt"
	"math"
	"slices"
	"testing"

	"chandlery/api"
	"chandlery/conf"
	"chandlery/hall"
	"chandlery/heart"
)

// odds are numbers that are no worker, no superblock and no class.
var odds = []int{math.MinInt, math.MinInt + 1, -1 << 32, -64, -1, 64, 65, 1 << 32, math.MaxInt - 1, math.MaxInt}

// The chapter's example.
func TestExample(t *testing.T) {
	for _, c := range systems(t) {
		w := open(t, c)
		w.ask(0, alloc(16))
		w.alone(0)
		l := w.Events()
		if len(l) != 1 || l[0].Worker != 0 || l[0].Request != alloc(16) || l[0].Answer != (api.Answer{N: first}) {
			t.Errorf("%v: Events: %v", c, l)
		}
		if l := w.Live(); !slices.Equal(l, []api.Interval{{At: first, Len: c.Classes[0]}}) {
			t.Errorf("%v: Live: %v", c, l)
		}
	}
}

// P19.1: what may not be is refused.
func TestRefused(t *testing.T) {
	ok := api.Config{Workers: 1, Supers: 1, Batch: 1, Classes: []int{16}}
	list := []api.Config{{}, {Workers: 1, Supers: 1, Batch: 1}}
	for _, n := range append(slices.Clone(odds[:5]), odds[6:]...) {
		for _, p := range []func(*api.Config){
			func(c *api.Config) { c.Workers = n },
			func(c *api.Config) { c.Supers = n },
			func(c *api.Config) { c.Batch = n },
			func(c *api.Config) { c.Tries = n },
			func(c *api.Config) { c.Classes = []int{n} },
		} {
			c := ok
			p(&c)
			list = append(list, c)
		}
	}
	for _, c := range list {
		if y, e := New(c); y != nil || e != api.ErrConf || e != conf.Check(c) {
			t.Errorf("%v: New: %v, %d", c, y, e)
		}
	}
}

// P19.1, P19.2, P19.4: nothing happened in a new one.
func TestNew(t *testing.T) {
	for _, c := range systems(t) {
		y := begun(t, c)
		if got := y.Config(); fmt.Sprint(got) != fmt.Sprint(c) {
			t.Errorf("Config: %v, want %v", got, c)
		}
		if y.Clock() != 0 || y.Faults() != 0 || !y.Quiet() || len(y.Events()) != 0 || len(y.Entries()) != 0 || len(y.Live()) != 0 {
			t.Errorf("%v: %s", c, told(y))
		}
		for i := range c.Supers {
			if s, ok := y.Super(i); !ok || s != (heart.Super{Free: true, Class: -1}) {
				t.Errorf("%v: Super(%d): %v, %v", c, i, s, ok)
			}
		}
		before := told(y)
		for worker := range c.Workers {
			if !y.Idle(worker) || len(y.Queue(worker)) != 0 || y.Pick(worker) {
				t.Errorf("%v: the worker %d does something", c, worker)
			}
			for class := range c.Classes {
				if l := y.Own(worker, class); len(l) != 0 {
					t.Errorf("%v: the worker %d has %v", c, worker, l)
				}
			}
		}
		if told(y) != before {
			t.Errorf("%v: %s, want %s", c, told(y), before)
		}
	}
}

// P19.1, P19.2: of a worker that there isn't there is nothing, whatever the others do.
func TestNoSuchWorker(t *testing.T) {
	for _, c := range systems(t) {
		w := open(t, c)
		for range 12 {
			w.ask(0, alloc(1))
		}
		for range 40 {
			w.pick(0)
		}
		before := told(w.Yard)
		for _, worker := range append(slices.Clone(odds), c.Workers, c.Workers+1) {
			if w.Ask(worker) || w.Ask(worker, alloc(16), free(first)) || w.Pick(worker) || !w.Idle(worker) || len(w.Queue(worker)) != 0 {
				t.Errorf("%v: there is a worker %d", c, worker)
			}
			for class := range c.Classes {
				if l := w.Own(worker, class); len(l) != 0 {
					t.Errorf("%v: Own(%d, %d): %v", c, worker, class, l)
				}
			}
		}
		if told(w.Yard) != before {
			t.Errorf("%v: %s, want %s", c, told(w.Yard), before)
		}
	}
}

// P19.1: each worker has a Queue of its own, in order, behind all else; asking is no step.
func TestAsk(t *testing.T) {
	for _, c := range systems(t) {
		w := open(t, c)
		w.ask(c.Workers - 1)
		if !w.Quiet() || !w.Idle(c.Workers-1) {
			t.Errorf("%v: it was asked for nothing", c)
		}
		for worker := range c.Workers {
			for n := range worker%3 + 1 {
				w.ask(worker, alloc(worker+1), usable(first+n), api.Request{Kind: 9, N: n})
			}
			if w.Quiet() || w.Idle(worker) || worker+1 < c.Workers && !w.Idle(worker+1) {
				t.Errorf("%v: the worker %d was asked", c, worker)
			}
		}
		for worker := range c.Workers {
			if q := w.Queue(worker); !slices.Equal(q, w.asked[worker]) {
				t.Errorf("%v: Queue(%d): %v, want %v", c, worker, q, w.asked[worker])
			}
		}
		if w.Clock() != 0 || w.Accesses() != w.ops[0] || len(w.Events()) != 0 {
			t.Errorf("%v: %s", c, told(w.Yard))
		}
		w.written()
		w.rest()
		w.written()
	}
}

// P19.1: it is Quiet as soon as all are Idle, not sooner, whoever is the last one.
func TestQuiet(t *testing.T) {
	c := api.Config{Workers: 4, Supers: 4, Batch: 2, Classes: []int{256}}
	for last := range c.Workers {
		w := open(t, c)
		for worker := range c.Workers {
			w.ask(worker, alloc(256), usable(first))
		}
		for worker := range c.Workers {
			if worker != last {
				w.alone(worker)
			}
		}
		for !w.Idle(last) {
			if w.Quiet() {
				t.Fatalf("the worker %d isn't Idle", last)
			}
			w.pick(last)
		}
		if !w.Quiet() {
			t.Errorf("all are Idle behind the worker %d", last)
		}
	}
}

// P19.2: a Pick is a step of that worker alone; a Clock counts those that answered true.
func TestPick(t *testing.T) {
	w := open(t, api.Config{Workers: 2, Supers: 1, Batch: 1, Classes: []int{512}})
	w.ask(0, alloc(0), alloc(512))
	w.ask(1, api.Request{Kind: 7}, usable(first))
	for i, x := range []struct{ worker, clock, accesses int }{
		{1, 1, 0}, {0, 2, 0}, {0, 3, 1}, {1, 4, 1}, {1, 4, 0}, {1, 4, 0}, {0, 5, 1},
	} {
		before, other := w.Accesses(), w.Queue(1-x.worker)
		w.pick(x.worker)
		if w.Clock() != x.clock || w.Accesses()-before != x.accesses || !slices.Equal(w.Queue(1-x.worker), other) {
			t.Errorf("the Pick %d: the Clock is %d, %d accesses, the other one's Queue %v", i, w.Clock(), w.Accesses()-before, w.Queue(1-x.worker))
		}
	}
	want := []api.Event{
		{Worker: 1, Request: api.Request{Kind: 7}, Answer: api.Answer{Code: api.ErrRange}, Steps: 1, Begin: 1, Point: 1, End: 1},
		{Request: alloc(0), Answer: api.Answer{Code: api.ErrSize}, Steps: 1, Begin: 2, Point: 2, End: 2},
		{Request: alloc(512), Steps: 2, Begin: 3},
		{Worker: 1, Request: usable(first), Answer: api.Answer{Code: api.ErrFree}, Steps: 1, Begin: 4, Point: 4, End: 4},
	}
	if l := w.Events(); !slices.Equal(l, want) {
		t.Errorf("Events: %v, want %v", l, want)
	}
}

// P19.3: what ends in its first step counts there; an Alloc that is answered OK in its last one, a Free in its first one.
func TestWhereItCounts(t *testing.T) {
	w := open(t, api.Config{Workers: 1, Supers: 2, Batch: 2, Classes: []int{512}})
	for _, x := range []struct {
		r          api.Request
		a          api.Answer
		long, last bool
	}{
		{alloc(512), api.Answer{N: first}, true, true},
		{alloc(512), api.Answer{N: first + 512}, false, true},
		{alloc(1024), api.Answer{N: first + 1024}, true, true},
		{usable(first), api.Answer{N: 512}, false, true},
		{free(first + 1024), api.Answer{N: 1024}, true, false},
		{free(first + 1024), api.Answer{Code: api.ErrFree}, false, false},
		{free(first), api.Answer{N: 512}, false, false},
		{alloc(2049), api.Answer{Code: api.ErrSize}, false, false},
	} {
		before := w.Clock()
		e := w.do(0, x.r)
		want := api.Event{Request: x.r, Answer: x.a, Steps: w.Clock() - before, Begin: before + 1, Point: before + 1, End: w.Clock()}
		if x.last {
			want.Point = w.Clock()
		}
		if e != want || x.long != (e.Steps > 1) {
			t.Errorf("%v, want %v", e, want)
		}
	}
	w.written()
}

// P19.3: what there is no room for counts in the step in which the hall finds so: its own, if all others stand still.
func TestFullAlone(t *testing.T) {
	for _, c := range systems(t) {
		w := open(t, c)
		w.do(0, alloc(1024*c.Supers))
		w.ask(0, alloc(1024))
		want := api.Event{Request: alloc(1024), Begin: w.Clock() + 1}
		for !w.Idle(0) {
			made := len(w.Entries())
			w.pick(0)
			want.Steps++
			if len(w.Entries()) > made {
				want.Answer, want.Point = full, w.Clock()
			}
			if w.Idle(0) {
				want.End = w.Clock()
			}
			if e := w.Events()[1]; e != want {
				t.Fatalf("%v: %v, want %v", c, e, want)
			}
		}
		if want.Point == 0 {
			t.Errorf("%v: %v never counts", c, want)
		}
	}
}

// P19.3: what there is no room for counts where somebody else found so, ahead of its end; that it ends changes neither.
func TestFullByAnotherOne(t *testing.T) {
	w := open(t, api.Config{Workers: 2, Supers: 1, Batch: 1, Classes: []int{512}})
	w.do(1, alloc(512))
	w.do(1, alloc(512))
	w.ask(0, alloc(100), alloc(0))
	for range 3 {
		// Behind these it has asked for help.
		w.pick(0)
	}
	asleep := api.Event{Request: alloc(100), Steps: 3, Begin: w.Clock() - 2}
	made := len(w.Entries())
	w.ask(1, alloc(1024))
	for len(w.Entries()) == made {
		if e := w.Events()[2]; e != asleep {
			t.Fatalf("%v, want %v", e, asleep)
		}
		w.pick(1)
	}
	asleep.Answer, asleep.Point = full, w.Clock()
	if e := w.Events()[2]; e != asleep || e.Point != w.stepOf(w.Entries()[made].At) || w.Entries()[made].Worker != 0 {
		t.Fatalf("%v, want %v; %v", e, asleep, w.Entries()[made])
	}
	w.alone(1)
	if e := w.Events()[2]; e != asleep {
		t.Errorf("behind the other one's end: %v, want %v", e, asleep)
	}
	// Room that there is from now on comes too late.
	w.do(1, free(first))
	w.alone(0)
	e := w.Events()[2]
	asleep.Steps, asleep.End = e.Steps, w.Clock()-1
	if e != asleep || e.Steps < 4 {
		t.Errorf("behind its end: %v, want %v", e, asleep)
	}
	w.written()
	w.replayed()
}

// P19.4: what looks from outside makes no access, takes no step, and changes nothing.
func TestFromOutside(t *testing.T) {
	for _, c := range systems(t) {
		w := open(t, c)
		for worker := range c.Workers {
			w.ask(worker, alloc(16), alloc(1024), free(first), usable(first))
		}
		for n := range 60 {
			w.pick(n * n % c.Workers)
			before, ops, clock := told(w.Yard), w.Accesses(), w.Clock()
			for _, i := range odds {
				w.Super(i)
				w.Own(i, 0)
				w.Own(0, i)
				w.Queue(i)
				w.Idle(i)
			}
			if told(w.Yard) != before || w.Accesses() != ops || w.Clock() != clock {
				t.Fatalf("%v: %s, want %s", c, told(w.Yard), before)
			}
		}
	}
}

// P19.4: superblocks and a worker's own blocks are as all that was done left them.
func TestSuperAndOwn(t *testing.T) {
	w := open(t, api.Config{Workers: 2, Supers: 4, Batch: 2, Classes: []int{128, 256}})
	w.do(1, alloc(200))
	w.do(0, alloc(2000))
	for i, want := range []heart.Super{{Class: 1, Mask: 12}, {Class: -1, Run: 2}, {Class: -1, Run: -1}, {Free: true, Class: -1}} {
		if s, ok := w.Super(i); !ok || s != want {
			t.Errorf("Super(%d): %v, %v, want %v", i, s, ok, want)
		}
	}
	for _, i := range append(slices.Clone(odds), 4) {
		if s, ok := w.Super(i); ok || s != (heart.Super{}) {
			t.Errorf("Super(%d): %v", i, s)
		}
	}
	if l := w.Own(1, 1); !slices.Equal(l, []api.Block{{Index: 1}}) {
		t.Errorf("Own: %v", l)
	}
	if len(w.Own(0, 1)) != 0 || len(w.Own(1, 0)) != 0 || len(w.Own(1, 2)) != 0 || len(w.Own(1, -1)) != 0 {
		t.Error("Own of others")
	}
	if l := w.Live(); !slices.Equal(l, []api.Interval{{At: first, Len: 256}, {At: first + 1024, Len: 2048}}) {
		t.Errorf("Live: %v", l)
	}
	want := []hall.Entry{{Worker: 1, Op: heart.Refill(1), Answer: api.Op{A: 1, B: 3}}, {Worker: 0, Op: heart.Take(2), Answer: api.Op{A: 2}}}
	l := w.Entries()
	for i := range l {
		l[i].At = 0
	}
	if !slices.Equal(l, want) {
		t.Errorf("Entries: %v, want %v", l, want)
	}
}

// P2: lists that are handed in are neither kept nor changed, and those that are answered are new.
func TestListsOfTheirOwn(t *testing.T) {
	room := []int{256, 512, 7}
	c := api.Config{Workers: 2, Supers: 2, Batch: 1, Classes: room[:2]}
	y := begun(t, c)
	room[0], room[1] = 16, 32
	if got := y.Config().Classes; !slices.Equal(got, []int{256, 512}) || room[2] != 7 {
		t.Errorf("the Classes: %v", got)
	}
	got := y.Config().Classes
	got[0] = 16
	_ = append(got[:1], 16)
	asked := []api.Request{alloc(1), alloc(300), {Kind: 7}}
	y.Ask(0, asked[:2]...)
	asked[0] = free(1)
	y.Ask(0, alloc(3000))
	if want := []api.Request{alloc(1), alloc(300), alloc(3000)}; !slices.Equal(y.Queue(0), want) || asked[2].Kind != 7 {
		t.Errorf("Queue: %v, want %v", y.Queue(0), want)
	}
	y.Ask(0, alloc(1500))
	y.Queue(0)[0] = free(2)
	for y.Pick(0) {
	}
	before := told(y)
	y.Config().Classes[1] = 16
	y.Events()[0] = api.Event{Worker: 9}
	_ = append(y.Events()[:1], api.Event{Worker: 9})
	y.Entries()[0] = hall.Entry{Worker: 9}
	y.Live()[0] = api.Interval{}
	if told(y) != before {
		t.Errorf("%s, want %s", told(y), before)
	}
	if l := y.Live(); !slices.Equal(l, []api.Interval{{At: first, Len: 256}, {At: first + 1024, Len: 512}}) {
		t.Errorf("Live: %v", l)
	}
}

// P2: what was answered stays as it was.
func TestAnswersStay(t *testing.T) {
	w := open(t, api.Config{Workers: 2, Supers: 1, Batch: 1, Classes: []int{512}})
	var l [][]api.Event
	var kept []string
	for range 4 {
		w.ask(0, alloc(512), free(first))
		w.ask(1, alloc(1024), alloc(512))
	}
	for n := 0; !w.Quiet(); n++ {
		w.pick(n / 5 % 2)
		l = append(l, w.Events())
		kept = append(kept, fmt.Sprint(l[len(l)-1]))
	}
	for i := range l {
		if fmt.Sprint(l[i]) != kept[i] {
			t.Fatalf("the step %d: %v, want %s", i+1, l[i], kept[i])
		}
	}
}

// P2: two systems have nothing of each other; the same picks come to the same.
func TestTwoYards(t *testing.T) {
	for _, c := range systems(t) {
		one, other, idle := begun(t, c), begun(t, c), begun(t, c)
		before := told(idle)
		for n := range 200 {
			worker := n * n % c.Workers
			for _, y := range []*Yard{one, other} {
				y.Ask(worker, alloc(100*n), free(first+16*n))
				y.Pick(worker)
				y.Pick((n + 1) % c.Workers)
			}
			// How often it is looked at is no matter.
			one.Events()
		}
		if told(one) != told(other) || told(idle) != before {
			t.Errorf("%v: %s, want %s", c, told(one), told(other))
		}
	}
}

// P19.3: very many for which there is no room are each written down, without looking through them all at each step.
func TestManyFull(t *testing.T) {
	w := open(t, api.Config{Workers: 1, Supers: 1, Batch: 1, Classes: []int{512}})
	w.do(0, alloc(1024))
	const many = 40000
	for range many {
		w.Ask(0, alloc(512))
	}
	for w.Pick(0) {
	}
	l := w.Events()
	for _, e := range l[1:] {
		if e.Answer != full || e.Point <= e.Begin || e.Point > e.End {
			t.Fatalf("%v", e)
		}
	}
	if len(l) != many+1 {
		t.Errorf("%d events", len(l))
	}
}

// P1: of no Yard, and of one that New didn't make, nothing is promised, but that calls end, and none panics.
func TestOfWhatNothingIsPromised(t *testing.T) {
	for _, y := range []*Yard{nil, {}} {
		for _, n := range append(slices.Clone(odds), 0, 1) {
			if y.Ask(n, alloc(16)) || y.Pick(n) || !y.Idle(n) || len(y.Queue(n)) != 0 || len(y.Own(n, 0)) != 0 || len(y.Own(0, n)) != 0 {
				t.Errorf("%v: there is a worker %d", y, n)
			}
			if s, ok := y.Super(n); ok || s != (heart.Super{}) {
				t.Errorf("%v: Super(%d): %v", y, n, s)
			}
		}
		if y.Clock() != 0 || y.Accesses() != 0 || y.Faults() != 0 || !y.Quiet() || len(y.Events()) != 0 || len(y.Entries()) != 0 || len(y.Live()) != 0 {
			t.Errorf("something happened: %s", told(y))
		}
		if c := y.Config(); c.Workers != 0 || len(c.Classes) != 0 {
			t.Errorf("Config: %v", c)
		}
	}
}
