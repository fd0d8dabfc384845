package yard

import (
	"cmp"
	"fmt"
	"maps"
	"slices"
	"testing"

	"chandlery/api"
	"chandlery/arena"
	"chandlery/ask"
	"chandlery/conf"
)

// first is the first address of all.
const first = 65536

// full is what comes of it where there is no room.
var full = api.Answer{Code: api.ErrMemory}

// dice: numbers by a rule, the same in every run.
func dice(seed uint64) func(n int) int {
	return func(n int) int {
		seed = seed*6364136223846793005 + 1442695040888963407
		return int(seed >> 33 % uint64(n))
	}
}

// systems: few and many workers, superblocks, blocks of a batch, tries and classes.
func systems(t *testing.T) []api.Config {
	t.Helper()
	all := []int{}
	for n := range conf.MaxClasses {
		all = append(all, 32*(n+1))
	}
	list := []api.Config{
		{Workers: 1, Supers: 1, Batch: 1, Classes: []int{16}},
		{Workers: 1, Supers: 2, Batch: 64, Classes: []int{16, 512}},
		{Workers: 2, Supers: 1, Batch: 1, Classes: []int{512}},
		{Workers: 2, Supers: 3, Batch: 2, Tries: 1, Classes: []int{256, 512}},
		{Workers: 3, Supers: 4, Batch: 1, Tries: 2, Classes: []int{48, 336, 496}},
		{Workers: 5, Supers: 7, Batch: 3, Tries: 8, Classes: []int{32, 64, 128}},
		{Workers: 64, Supers: 64, Batch: 2, Classes: all},
	}
	for _, c := range list {
		if conf.Check(c) != api.OK {
			t.Fatalf("%v may not be", c)
		}
	}
	return list
}

// alloc, free, usable: what a worker may be asked for.
func alloc(size int) api.Request { return api.Request{Kind: api.Alloc, N: size} }

func free(at int) api.Request { return api.Request{Kind: api.Free, N: at} }

func usable(at int) api.Request { return api.Request{Kind: api.Usable, N: at} }

// begun: a new Yard.
func begun(t *testing.T, c api.Config) *Yard {
	t.Helper()
	y, e := New(c)
	if e != api.OK || y == nil {
		t.Fatalf("%v: New: %v, %d", c, y, e)
	}
	return y
}

// told: all that a Yard tells, in words.
func told(y *Yard) string {
	c := y.Config()
	l := []any{c, y.Clock(), y.Accesses(), y.Faults(), y.Quiet(), y.Events(), y.Entries(), y.Live()}
	for i := range c.Supers {
		s, ok := y.Super(i)
		l = append(l, s, ok)
	}
	for worker := range c.Workers {
		l = append(l, y.Queue(worker), y.Idle(worker))
		for class := range c.Classes {
			l = append(l, y.Own(worker, class))
		}
	}
	return fmt.Sprint(l...)
}

// watch is a Yard, and what was done with it.
type watch struct {
	*Yard
	t     *testing.T
	c     api.Config
	asked [][]api.Request // of each worker all that it was asked for
	who   []int           // of each step whose it was; the first one is the step 1
	ops   []int           // how many accesses there were behind each step, the step 0 among them
}

func open(t *testing.T, c api.Config) *watch {
	t.Helper()
	y := begun(t, c)
	return &watch{Yard: y, t: t, c: c, asked: make([][]api.Request, c.Workers), ops: []int{y.Accesses()}}
}

// ask: a worker that there is is asked for these.
func (w *watch) ask(worker int, l ...api.Request) {
	w.t.Helper()
	if !w.Ask(worker, l...) {
		w.t.Fatalf("%v: there is no worker %d", w.c, worker)
	}
	w.asked[worker] = append(w.asked[worker], l...)
}

// pick: a Pick of a worker that there is, held against whether it is Idle.
func (w *watch) pick(worker int) bool {
	w.t.Helper()
	idle, before := w.Idle(worker), w.Accesses()
	if w.Pick(worker) == idle {
		w.t.Fatalf("%v: Pick of the worker %d: %v", w.c, worker, idle)
	}
	if !idle {
		w.who = append(w.who, worker)
		w.ops = append(w.ops, w.Accesses())
	}
	if n := w.Accesses() - before; n < 0 || n > 1 || idle && n > 0 || w.Faults() != 0 || w.Clock() != len(w.who) {
		w.t.Fatalf("%v: %d accesses, %d faults, the step %d, want %d", w.c, n, w.Faults(), w.Clock(), len(w.who))
	}
	return !idle
}

// alone: a worker steps until it is Idle.
func (w *watch) alone(worker int) {
	w.t.Helper()
	for w.pick(worker) {
	}
}

// do: a worker that is Idle does this, alone; its event.
func (w *watch) do(worker int, r api.Request) api.Event {
	w.t.Helper()
	w.ask(worker, r)
	w.alone(worker)
	l := w.Events()
	return l[len(l)-1]
}

// rest: all workers end all that they were asked for.
func (w *watch) rest() {
	w.t.Helper()
	for worker := range w.c.Workers {
		w.alone(worker)
	}
	if !w.Quiet() {
		w.t.Fatalf("%v: it isn't Quiet", w.c)
	}
}

// stepOf: in which step an access was made.
func (w *watch) stepOf(op int) int {
	step, _ := slices.BinarySearch(w.ops, op)
	return step
}

// stepsOf: how many steps a worker took from one step to another one.
func (w *watch) stepsOf(worker, from, to int) int {
	n := 0
	for _, x := range w.who[from-1 : to] {
		if x == worker {
			n++
		}
	}
	return n
}

// foundFull: the step in which the hall's Entry was made that answers a worker zero, from one step to another one; 0: there is none.
func (w *watch) foundFull(worker, from, to int) int {
	for _, e := range w.Entries() {
		step := w.stepOf(e.At)
		if e.Worker == worker && e.Answer == (api.Op{}) && from <= step && step <= to {
			return step
		}
	}
	return 0
}

// written: Events is what was asked for, and what the chapter says of each.
func (w *watch) written() {
	w.t.Helper()
	next := make([]int, w.c.Workers)
	last := 0
	for i, e := range w.Events() {
		if e.Worker < 0 || e.Worker >= w.c.Workers || e.Begin <= last || e.Begin > len(w.who) {
			w.t.Fatalf("%v: the event %d: %v, behind the step %d of %d", w.c, i, e, last, len(w.who))
		}
		last = e.Begin
		if asked := w.asked[e.Worker][next[e.Worker]]; e.Request != asked {
			w.t.Fatalf("%v: the event %d: %v, want %v", w.c, i, e, asked)
		}
		next[e.Worker]++
		to := e.End
		if e.End == 0 {
			to = len(w.who)
		}
		if w.who[e.Begin-1] != e.Worker || w.who[to-1] != e.Worker && e.End != 0 || e.Steps != w.stepsOf(e.Worker, e.Begin, to) {
			w.t.Fatalf("%v: the event %d: %v, by the steps %v", w.c, i, e, w.who)
		}
		w.counts(e, to)
	}
	for worker, n := range next {
		if q := w.Queue(worker); !slices.Equal(q, w.asked[worker][n:]) {
			w.t.Fatalf("%v: Queue of the worker %d: %v, want %v", w.c, worker, q, w.asked[worker][n:])
		}
	}
}

// counts: where an event counts, whose last step is known so far, and which answers that allows.
func (w *watch) counts(e api.Event, to int) {
	w.t.Helper()
	want := 0
	_, refused := ask.Check(w.c, e.Request)
	switch {
	case refused != api.OK:
		want = e.Begin
		if e.End != want || e.Answer != (api.Answer{Code: refused}) {
			w.t.Fatalf("%v: %v, want %d", w.c, e, refused)
		}
	case e.Kind == api.Usable:
		want = e.Begin
		if e.End != want {
			w.t.Fatalf("%v: %v ends at its first step", w.c, e)
		}
	case e.Kind == api.Free:
		want = e.Begin
	case e.Code == api.OK:
		want = e.End
	default:
		want = w.foundFull(e.Worker, e.Begin, to)
	}
	if e.Point != want || want == 0 && e.Answer != (api.Answer{}) {
		w.t.Fatalf("%v: %v counts at %d, want %d", w.c, e, e.Point, want)
	}
	if e.Kind == api.Alloc && e.End == 0 && e.Point == 0 && w.foundFull(e.Worker, e.Begin, to) != 0 {
		w.t.Fatalf("%v: %v counts already", w.c, e)
	}
}

// ordered: the events that count, in the order in which they do.
func ordered(l []api.Event) []api.Event {
	l = slices.DeleteFunc(slices.Clone(l), func(e api.Event) bool { return e.Point == 0 })
	slices.SortStableFunc(l, func(a, b api.Event) int { return cmp.Compare(a.Point, b.Point) })
	return l
}

// replayed: what is live, by all events that count, one behind the other; each is answered as it may be.
func (w *watch) replayed() {
	w.t.Helper()
	there := map[int]int{}
	for _, e := range ordered(w.Events()) {
		x, refused := ask.Check(w.c, e.Request)
		if refused != api.OK || e.Answer == full {
			continue
		}
		if e.Kind == api.Alloc {
			w.apart(there, e, x.Size(w.c))
			there[e.Answer.N] = x.Size(w.c)
			continue
		}
		want := api.Answer{N: there[e.Request.N]}
		if want.N == 0 {
			want.Code = api.ErrFree
		}
		if e.Answer != want {
			w.t.Fatalf("%v: %v, want %v", w.c, e, want)
		}
		if e.Kind == api.Free {
			delete(there, e.Request.N)
		}
	}
	var want []api.Interval
	for _, at := range slices.Sorted(maps.Keys(there)) {
		want = append(want, api.Interval{At: at, Len: there[at]})
	}
	if l := w.Live(); !slices.Equal(l, want) {
		w.t.Fatalf("%v: Live is %v, want %v", w.c, l, want)
	}
}

// apart: what was had lies where it may, and apart from all that is live.
func (w *watch) apart(there map[int]int, e api.Event, size int) {
	w.t.Helper()
	if at := e.Answer.N; e.Code != api.OK || at < first || at+size > arena.End(w.c) {
		w.t.Fatalf("%v: %v", w.c, e)
	}
	for at, n := range there {
		if e.Answer.N < at+n && at < e.Answer.N+size {
			w.t.Fatalf("%v: %v, and %d bytes are live at %d", w.c, e, n, at)
		}
	}
}
