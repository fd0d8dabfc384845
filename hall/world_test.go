package hall

import (
	"slices"
	"testing"

	"chandlery/api"
	"chandlery/conf"
	"chandlery/mem"
	"chandlery/obj"
	"chandlery/slot"
)

// junk is what stands in the words beside the Frame.
const junk = 0xBEEF

// mix is an object whose answers tell apart all orders in which things are done to it. It minds what it is given: its words
// must be such as it made, without room behind them, and what is asked such as a worker asked it.
type mix struct {
	words int
	wrong *[]string
}

// seal: what the B of each Op must be, so that no A goes with another one's B.
func seal(a uint64) uint64 { return a*0x9E3779B97F4A7C15 + 12345 }

func (x mix) Words() int { return x.words }

func (x mix) Apply(words []uint64, op api.Op) api.Op {
	if len(words) != x.words || cap(words) != x.words {
		*x.wrong = append(*x.wrong, "words that aren't the object's own alone")
		return api.Op{}
	}
	for i, w := range words {
		if w != words[0]*uint64(i+1) {
			*x.wrong = append(*x.wrong, "words that the object never had")
			return api.Op{}
		}
	}
	if op.B != seal(op.A) {
		*x.wrong = append(*x.wrong, "what nobody asked")
		return api.Op{}
	}
	if len(words) == 0 {
		return api.Op{A: op.A, B: op.A}
	}
	was := words[0]
	for i := range words {
		words[i] = (was*31 + op.A) * uint64(i+1)
	}
	return api.Op{A: was, B: words[0] ^ op.A}
}

// world is a hall, all of whose steps are held against what is promised.
type world struct {
	t     *testing.T
	m     *mem.Memory
	h     *Hall
	f     slot.Frame
	o     obj.Object
	bound int
	wrong *[]string
	desks []desk
	seen  []Entry  // all Entries so far
	words []uint64 // the words behind them
	most  int      // the greatest Steps of a Call
}

// desk is what is known of a worker.
type desk struct {
	call  *Call
	op    api.Op
	begun int   // the memory's Ops at Call
	asked int   // how many Calls there were
	done  int   // how many of them have an Entry
	last  Entry // the last one of these
}

// base is where the Frame begins in a world; behind it there are some words, too.
const base = 7

func newWorld(t *testing.T, workers, tries, words int) *world {
	w := &world{t: t, wrong: new([]string), bound: conf.Call(words, workers, tries), words: make([]uint64, words), desks: make([]desk, workers)}
	w.o = mix{words: words, wrong: w.wrong}
	w.f = slot.Frame{Base: base, Words: words, Workers: workers}
	w.m = mem.New(base + Size(w.o, workers) + base)
	for i := range base {
		w.m.Store(i, junk)
		w.m.Store(base+w.f.Size()+i, junk)
	}
	w.h = New(w.m, base, workers, tries, w.o)
	return w
}

// call: the worker asks; and it can't ask once more.
func (w *world) call(i int) {
	w.t.Helper()
	d := &w.desks[i]
	d.asked++
	a := uint64(i+1)<<32 + uint64(d.asked)
	d.op, d.begun = api.Op{A: a, B: seal(a)}, w.m.Ops()
	if d.call = w.h.Call(i, d.op); d.call == nil {
		w.t.Fatalf("Call of the worker %d: nil", i)
	}
	if w.h.Call(i, api.Op{A: 1, B: 1}) != nil {
		w.t.Fatalf("a second Call of the worker %d", i)
	}
	if a, ok := d.call.Answer(); ok || a != (api.Op{}) || d.call.Steps() != 0 || w.m.Ops() != d.begun {
		w.t.Fatalf("Call of the worker %d: %v, %v, %d steps, %d accesses", i, a, ok, d.call.Steps(), w.m.Ops()-d.begun)
	}
}

// step: the worker, which asks, steps; whether it is over behind that.
func (w *world) step(i int) bool {
	w.t.Helper()
	d := &w.desks[i]
	ops, steps := w.m.Ops(), d.call.Steps()
	over := d.call.Step()
	if at := w.m.Last().At; w.m.Ops() != ops+1 || at < base || at >= base+w.f.Size() || w.m.Faults() != 0 {
		w.t.Fatalf("a step: %d accesses, the last one %v, %d faults", w.m.Ops()-ops, w.m.Last(), w.m.Faults())
	}
	if d.call.Steps() != steps+1 || steps+1 > w.bound {
		w.t.Fatalf("a step: Steps %d, then %d, at most %d", steps, d.call.Steps(), w.bound)
	}
	w.most = max(w.most, steps+1)
	w.look()
	answer, ok := d.call.Answer()
	if ok != over || !over && answer != (api.Op{}) {
		w.t.Fatalf("Step %v, Answer %v, %v", over, answer, ok)
	}
	if over {
		w.over(d, answer)
	}
	return over
}

// look: of what came to the Entries each is of a worker that asks just that, done now, and once.
func (w *world) look() {
	w.t.Helper()
	if w.h.Count() == len(w.seen) {
		return
	}
	l := w.h.Entries()
	if len(l) != w.h.Count() || len(l) < len(w.seen) || !slices.Equal(l[:len(w.seen)], w.seen) {
		w.t.Fatalf("Count %d; Entries %v, then %v", w.h.Count(), w.seen, l)
	}
	for _, e := range l[len(w.seen):] {
		if e.Worker < 0 || e.Worker >= len(w.desks) {
			w.t.Fatalf("an Entry of no worker: %v", e)
		}
		d := &w.desks[e.Worker]
		d.done++
		if d.call == nil || d.done != d.asked || e.Op != d.op || e.At != w.m.Ops() || e.At <= d.begun {
			w.t.Fatalf("an Entry that isn't the worker's: %v", e)
		}
		if want := w.o.Apply(w.words, e.Op); want != e.Answer {
			w.t.Fatalf("an Entry %v, want %v", e, want)
		}
		d.last = e
	}
	w.seen = l
	if len(*w.wrong) > 0 {
		w.t.Fatalf("the object was given %v", *w.wrong)
	}
	if got := w.h.State(); !slices.Equal(got, w.words) {
		w.t.Fatalf("State: %d, want %d", got, w.words)
	}
}

// over: a Call that is over has its Entry, and does nothing any more.
func (w *world) over(d *desk, answer api.Op) {
	w.t.Helper()
	if d.done != d.asked || answer != d.last.Answer || d.last.At > w.m.Ops() {
		w.t.Fatalf("over with %v, %d of %d done, the last one %v", answer, d.done, d.asked, d.last)
	}
	ops, steps := w.m.Ops(), d.call.Steps()
	if again, ok := d.call.Answer(); !d.call.Step() || !ok || again != answer || w.m.Ops() != ops || d.call.Steps() != steps {
		w.t.Fatalf("a step behind the last one: %v, %v, %d accesses", again, ok, w.m.Ops()-ops)
	}
	d.call = nil
}

// pick: the worker steps; if it asks nothing, it asks ahead of that, at most so many Calls in all. Whether it stepped.
func (w *world) pick(i, calls int) bool {
	w.t.Helper()
	if w.desks[i].call == nil {
		if w.desks[i].asked >= calls {
			return false
		}
		w.call(i)
	}
	w.step(i)
	return true
}

// finish: all workers have made that many Calls, by turns; then all that was asked is done.
func (w *world) finish(calls int) {
	w.t.Helper()
	for some := true; some; {
		some = false
		for i := range w.desks {
			some = w.pick(i, calls) || some
		}
	}
	w.whole()
}

// whole: all as it is behind all, held against Replay, and the words beside the Frame as they were.
func (w *world) whole() {
	w.t.Helper()
	w.look()
	var l, answers []api.Op
	for n, e := range w.h.Entries() {
		l, answers = append(l, e.Op), append(answers, e.Answer)
		if n > 0 && e.At < w.seen[n-1].At {
			w.t.Fatalf("Entries don't rise: %v, %v", w.seen[n-1], e)
		}
	}
	if got, words := obj.Replay(w.o, l...); !slices.Equal(got, answers) || !slices.Equal(words, w.h.State()) {
		w.t.Fatalf("Replay: %v, %d, want %v, %d", got, words, answers, w.h.State())
	}
	if len(*w.wrong) > 0 {
		w.t.Fatalf("the object was given %v", *w.wrong)
	}
	for i := range base {
		if w.m.Peek(i) != junk || w.m.Peek(base+w.f.Size()+i) != junk {
			w.t.Fatalf("a word beside the Frame was written")
		}
	}
}

// dice: numbers below n, one after the other, the same ones each time.
func dice(seed uint64) func(n int) int {
	return func(n int) int {
		seed = seed*6364136223846793005 + 1442695040888963407
		return int(seed >> 33 % uint64(n))
	}
}
