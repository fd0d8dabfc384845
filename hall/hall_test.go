package hall

import (
	"math"
	"slices"
	"testing"

	"chandlery/api"
	"chandlery/conf"
	"chandlery/mem"
	"chandlery/obj"
	"chandlery/word"
)

// most is the greatest word.
const most = math.MaxUint64

// The chapter's example.
func TestExample(t *testing.T) {
	m := mem.New(Size(obj.Counter{}, 1))
	h := New(m, 0, 1, 0, obj.Counter{})
	if s := h.State(); h.Count() != 0 || len(h.Entries()) != 0 || !slices.Equal(s, []uint64{0}) {
		t.Errorf("at first: %d Entries, %d", h.Count(), s)
	}
	c := h.Call(0, api.Op{A: 5})
	for !c.Step() {
	}
	if a, ok := c.Answer(); !ok || a != (api.Op{A: 0, B: 5}) {
		t.Errorf("Answer: %v, %v", a, ok)
	}
	if s := h.State(); !slices.Equal(s, []uint64{5}) {
		t.Errorf("State: %d", s)
	}
	if l := h.Entries(); len(l) != 1 || l[0] != (Entry{Op: api.Op{A: 5}, Answer: api.Op{B: 5}, At: m.Ops()}) {
		t.Errorf("Entries: %v", l)
	}
}

// P10.1: Size is layer 8's.
func TestSize(t *testing.T) {
	for _, workers := range []int{1, 2, 3, 64} {
		for _, o := range []obj.Object{obj.Counter{}, obj.Stack{Room: 5}, obj.Stack{Room: 1000}, mix{}, mix{words: 128}} {
			want := 1 + 4*workers + 2*workers*(o.Words()+3*workers)
			if got := Size(o, workers); got != want {
				t.Errorf("Size of %d words, %d workers: %d, want %d", o.Words(), workers, got, want)
			}
		}
	}
}

// P10.1: a memory that has just the words is enough, from any place on; objects of no words, and great ones.
func TestJustEnoughRoom(t *testing.T) {
	for _, o := range []obj.Object{obj.Counter{}, obj.Stack{Room: 9}, mix{wrong: new([]string)}, obj.Stack{Room: 1000}} {
		for _, workers := range []int{1, 3, 64} {
			for _, at := range []int{0, 1, 1000} {
				m := mem.New(at + Size(o, workers))
				h := New(m, at, workers, 1, o)
				c := h.Call(workers-1, api.Op{A: 1, B: 4})
				if c == nil {
					t.Fatalf("from %d on, %d workers: no Call", at, workers)
				}
				for !c.Step() {
				}
				if m.Faults() != 0 || h.Count() != 1 || len(h.State()) != o.Words() {
					t.Errorf("from %d on, %d workers: %d faults, %d Entries, %d words", at, workers, m.Faults(), h.Count(), len(h.State()))
				}
			}
		}
	}
}

// P10.1: workers that there aren't.
func TestNoSuchWorker(t *testing.T) {
	for _, workers := range []int{1, 2, 64} {
		w := newWorld(t, workers, 1, 2)
		ops := w.m.Ops()
		for _, n := range []int{math.MinInt, -1 << 32, -64, -1, workers, workers + 1, 65, 128, 256, 1 << 32, math.MaxInt} {
			if w.h.Call(n, api.Op{A: 1, B: seal(1)}) != nil {
				t.Errorf("%d workers: a Call of the worker %d", workers, n)
			}
		}
		if w.m.Ops() != ops || w.h.Count() != 0 {
			t.Errorf("%d workers: %d accesses, %d Entries", workers, w.m.Ops()-ops, w.h.Count())
		}
		w.finish(1)
	}
}

// P10.1: a Call that was refused leaves nothing behind: the earlier one goes on, the next one comes behind it.
func TestRefusedCall(t *testing.T) {
	m := mem.New(100)
	h := New(m, 0, 2, 0, obj.Counter{})
	c := h.Call(1, api.Op{A: 3})
	for over := false; !over; over = c.Step() {
		if h.Call(1, api.Op{A: 100}) != nil {
			t.Fatal("a Call of a worker that still asks")
		}
	}
	d := h.Call(1, api.Op{A: 4})
	if d == nil {
		t.Fatal("no Call behind one that is over")
	}
	for !d.Step() {
	}
	a, _ := c.Answer()
	b, _ := d.Answer()
	if a != (api.Op{A: 0, B: 3}) || b != (api.Op{A: 3, B: 7}) || h.Count() != 2 {
		t.Errorf("Answers %v, %v, %d Entries", a, b, h.Count())
	}
}

// P10.1, P10.2: one worker alone, whatever stands beside it.
func TestAlone(t *testing.T) {
	for _, workers := range []int{1, 2, 5, 64} {
		for tries := range 9 {
			w := newWorld(t, workers, tries, 3)
			i := workers / 2
			for w.pick(i, 5) {
			}
			w.whole()
			limit := conf.Attempt(3, workers)
			if tries == 0 {
				limit += 3
			}
			if len(w.seen) != 5 || w.most > limit {
				t.Errorf("%d workers, %d tries: %d Entries, %d steps of %d", workers, tries, len(w.seen), w.most, limit)
			}
		}
	}
}

// P10.1: a worker tries it alone, ahead of asking: as long as it does, nothing of what it asks stands in the Frame.
func TestTriesAloneFirst(t *testing.T) {
	for tries := range 9 {
		w := newWorld(t, 2, tries, 1)
		w.call(0)
		asks := func() bool {
			for _, at := range []int{w.f.Asked(0), w.f.A(0), w.f.B(0)} {
				if w.m.Peek(at) != 0 {
					return true
				}
			}
			return false
		}
		lost := 0
		for !asks() && w.desks[0].call != nil {
			// The other one comes ahead of each attempt's end: one is lost for each Call of the other one's.
			if w.m.Last().At == w.f.Held(0) {
				lost++
				w.call(1)
				for !w.step(1) {
				}
			}
			w.step(0)
		}
		if lost != tries || !asks() {
			t.Errorf("%d tries: it asked for help behind %d", tries, lost)
		}
		w.finish(1)
	}
}

// P10.2 to P10.4: workers by turns, of one step and of more.
func TestByTurns(t *testing.T) {
	for _, workers := range []int{1, 2, 3, 5, 8} {
		for _, tries := range []int{0, 1, 2, 8} {
			for _, turn := range []int{1, 2, 3, 7, 20, 53} {
				w := newWorld(t, workers, tries, 2)
				for some := true; some; {
					some = false
					for i := range workers {
						for range turn {
							some = w.pick(i, 4) || some
						}
					}
				}
				w.finish(4)
				if len(w.seen) != 4*workers {
					t.Fatalf("%d Entries", len(w.seen))
				}
			}
		}
	}
}

// P10.2 to P10.4: the most workers that may be, by turns, and by chance.
func TestManyWorkers(t *testing.T) {
	for _, tries := range []int{0, 1, 8} {
		w := newWorld(t, 64, tries, 3)
		w.finish(2)
		next := dice(uint64(tries))
		for range 60000 {
			w.pick(next(64), 9)
		}
		w.finish(9)
	}
}

// P10.2 to P10.4: whoever comes, for as long as it comes.
func TestByChance(t *testing.T) {
	for seed := range uint64(600) {
		next := dice(seed)
		workers, tries, words := 1+next(6), next(4), next(4)
		w := newWorld(t, workers, tries, words)
		long := 1 + next(60)
		for range 200 {
			i := next(workers)
			for range 1 + next(long) {
				w.pick(i, 50)
			}
		}
		w.finish(w.desks[0].asked + 2)
	}
}

// path: the first worker steps first; at each of some points another one goes on in its stead; then all by turns.
func (w *world) path(calls int, points []int, who []int) {
	w.t.Helper()
	at, step := 0, 0
	for i := 0; i <= len(points); i++ {
		for i == len(points) || step < points[i] {
			if !w.pick(who[at], calls) {
				break
			}
			step++
		}
		at = (at + 1) % len(who)
	}
	w.finish(calls)
}

// P10.2 to P10.4: two workers, that go on in each other's stead up to three times: the first time at each of a Call's steps.
func TestSwitchesOfTwo(t *testing.T) {
	for _, tries := range []int{0, 1} {
		for a := 0; a <= 75; a++ {
			for b := a; b <= a+110; b += 3 {
				for c := b; c <= b+70; c += 9 {
					newWorld(t, 2, tries, 1).path(3, []int{a, b, c}, []int{0, 1})
				}
			}
		}
	}
}

// P10.2 to P10.4: three workers, one behind the other.
func TestSwitchesOfThree(t *testing.T) {
	for _, tries := range []int{0, 1} {
		for a := 0; a <= 90; a += 2 {
			for b := a; b <= a+130; b += 9 {
				for c := b; c <= b+130; c += 13 {
					newWorld(t, 3, tries, 1).path(2, []int{a, b, c}, []int{0, 1, 2, 0})
				}
			}
		}
	}
}

// P10.3, P10.4: one stands still, wherever it is; the others go on; then it goes on, too.
func TestOneStandsStill(t *testing.T) {
	for _, tries := range []int{0, 1, 3} {
		for still := range conf.Call(2, 3, tries) {
			w := newWorld(t, 3, tries, 2)
			w.call(0)
			for range still {
				if w.desks[0].call == nil {
					break
				}
				w.step(0)
			}
			for range 400 {
				w.pick(1, 4)
				w.pick(2, 4)
			}
			if w.desks[1].asked != 4 || w.desks[2].asked != 4 || w.desks[1].call != nil || w.desks[2].call != nil {
				t.Fatalf("the others waited for one that stood still behind %d steps", still)
			}
			w.finish(4)
		}
	}
}

// P10.3: one that is slow, whom all others pass as often as they can, is over within its own steps all the same.
func TestOneIsSlow(t *testing.T) {
	for _, workers := range []int{2, 3, 6} {
		for _, tries := range []int{0, 1, 4, 8} {
			for fast := 1; fast <= 240; fast += 1 + fast/6 {
				w := newWorld(t, workers, tries, 1)
				for slow := 0; slow < 3; {
					for k := range fast {
						w.pick(1+k%(workers-1), math.MaxInt)
					}
					if w.desks[0].call == nil {
						w.call(0)
					}
					if w.step(0) {
						slow++
					}
				}
				w.finish(w.desks[1].asked)
			}
		}
	}
}

// P10.3: the others come ahead of each of the slow one's swings, so that all its attempts go to their end, and fail: it is over
// within the bound, by what others did for it.
func TestAllAttemptsFail(t *testing.T) {
	for _, workers := range []int{2, 3, 5, 64} {
		for tries := range 9 {
			w := newWorld(t, workers, tries, 1)
			w.call(0)
			// Behind the last word of its own record it swings next.
			last := [2]int{w.f.At(0, 0) + w.f.Record() - 1, w.f.At(0, 1) + w.f.Record() - 1}
			fails := 0
			for w.desks[0].call != nil {
				w.step(0)
				if a := w.m.Last(); a.Kind == mem.Stores && (a.At == last[0] || a.At == last[1]) {
					w.call(1)
					for !w.step(1) {
					}
					fails++
				}
			}
			if fails < tries+1 {
				t.Errorf("%d workers, %d tries: %d attempts failed", workers, tries, fails)
			}
			w.finish(1)
		}
	}
}

// P10.4: tags come round: behind very many Calls the head's isn't greater than there are workers, whoever holds what.
func TestTagsComeRound(t *testing.T) {
	for _, workers := range []int{1, 2, 4} {
		w := newWorld(t, workers, 1, 1)
		next, used := dice(9), map[word.Ref]bool{}
		for range 60000 {
			w.pick(next(workers), math.MaxInt)
			r, ok := word.To(w.m.Peek(w.f.Head()))
			if !ok || r.Worker >= workers || r.Slot > 1 || r.Tag > workers {
				t.Fatalf("the head: %v, %v", r, ok)
			}
			used[r] = true
		}
		w.whole()
		if len(w.seen) < 20*len(used) {
			t.Errorf("%d references for %d Entries", len(used), len(w.seen))
		}
	}
}

// P10.4: others' objects, held against Replay, in many orders.
func TestGivenObjects(t *testing.T) {
	for seed := range uint64(100) {
		next := dice(seed + 1000)
		workers, tries := 1+next(4), next(3)
		for _, o := range []obj.Object{obj.Counter{}, obj.Stack{Room: 3}, obj.Stack{Room: 40}, obj.Stack{}} {
			m := mem.New(Size(o, workers))
			h := New(m, 0, workers, tries, o)
			calls := make([]*Call, workers)
			got := map[int][]api.Op{}
			for range 4000 {
				i := next(workers)
				if calls[i] == nil {
					calls[i] = h.Call(i, api.Op{A: uint64(next(4)), B: uint64(next(1000))})
				}
				if calls[i].Step() {
					a, _ := calls[i].Answer()
					got[i] = append(got[i], a)
					calls[i] = nil
				}
			}
			var l, answers []api.Op
			of := map[int][]api.Op{}
			for _, e := range h.Entries() {
				l, answers = append(l, e.Op), append(answers, e.Answer)
				of[e.Worker] = append(of[e.Worker], e.Answer)
			}
			want, words := obj.Replay(o, l...)
			if !slices.Equal(answers, want) || !slices.Equal(words, h.State()) {
				t.Fatalf("%v: Entries %v, State %d, want %v, %d", o, h.Entries(), h.State(), want, words)
			}
			for i := range workers {
				if n := len(got[i]); len(of[i]) < n || len(of[i]) > n+1 || !slices.Equal(of[i][:n], got[i]) {
					t.Fatalf("%v: the worker %d was answered %v, Entries tell %v", o, i, got[i], of[i])
				}
			}
		}
	}
}

// P10.4: what a hall does hangs on nothing but its Calls and Steps: not on where it lies, nor on other words and accesses.
func TestHangsOnItsCallsAlone(t *testing.T) {
	const workers = 3
	run := func(at int, noise bool) (accesses []mem.Access, entries []Entry) {
		m := mem.New(at + Size(obj.Stack{Room: 2}, workers) + 3)
		if noise {
			for i := range at {
				m.Store(i, most)
			}
		}
		h := New(m, at, workers, 1, obj.Stack{Room: 2})
		calls, next := make([]*Call, workers), dice(5)
		for n := range 5000 {
			i := next(workers)
			if calls[i] == nil {
				calls[i] = h.Call(i, api.Op{A: uint64(1 + next(2)), B: uint64(n)})
			}
			if calls[i].Step() {
				calls[i] = nil
			}
			a := m.Last()
			a.At -= at
			accesses = append(accesses, a)
			if k := h.Count(); k > len(entries) {
				for _, e := range h.Entries()[len(entries):] {
					if e.At != m.Ops() {
						t.Fatalf("an Entry at %d, want %d", e.At, m.Ops())
					}
					e.At = n
					entries = append(entries, e)
				}
			}
			if noise {
				m.Add(n%at, 1)
				m.Load(-1)
			}
		}
		return accesses, entries
	}
	accesses, entries := run(0, false)
	for _, at := range []int{0, 1, 50} {
		a, e := run(at, at > 0)
		if !slices.Equal(a, accesses) || !slices.Equal(e, entries) {
			t.Errorf("from %d on it does otherwise", at)
		}
	}
}

// P2: what is answered is the caller's own.
func TestAnswersAreNewMemory(t *testing.T) {
	w := newWorld(t, 2, 1, 3)
	w.finish(3)
	a, b, s, u := w.h.Entries(), w.h.Entries(), w.h.State(), w.h.State()
	for i := range a {
		a[i] = Entry{Worker: 9}
	}
	for i := range s {
		s[i] = 99
	}
	if !slices.Equal(b, w.seen) || !slices.Equal(w.h.Entries(), w.seen) || !slices.Equal(u, w.words) || !slices.Equal(w.h.State(), w.words) {
		t.Error("an answer is shared")
	}
	_ = append(b, Entry{Worker: 8})
	w.finish(6)
}

// P10.2: looking from outside is no access, at any time.
func TestLookingIsNoAccess(t *testing.T) {
	w := newWorld(t, 2, 0, 2)
	for w.pick(0, 2) {
		ops := w.m.Ops()
		w.h.Entries()
		w.h.Count()
		w.h.State()
		if c := w.desks[0].call; c != nil {
			c.Answer()
			c.Steps()
		}
		w.h.Call(-1, api.Op{})
		if w.m.Ops() != ops {
			t.Fatal("an access from outside")
		}
	}
}

// drive: a hall of which nothing is promised: all calls end, and nothing panics.
func drive(h *Hall) {
	var calls []*Call
	for _, i := range []int{0, 1, 63, 64, 99, -1} {
		calls = append(calls, h.Call(i, api.Op{A: 1, B: 2}))
	}
	for range 3000 {
		for _, c := range calls {
			c.Step()
			c.Steps()
			c.Answer()
		}
	}
	h.Entries()
	h.Count()
	h.State()
}

// fool is an object that can't be.
type fool struct{ words int }

func (f fool) Words() int {
	if f.words == 13 {
		panic("words")
	}
	return f.words
}

func (f fool) Apply(words []uint64, op api.Op) api.Op {
	_ = append(words, 1, 2, 3)
	words[0] = 5
	panic("apply")
}

// P1: numbers, memories and objects of which nothing is promised.
func TestWrongHalls(t *testing.T) {
	wild := []int{math.MinInt, math.MinInt + 1, -1 << 40, -65, -1, 0, 1, 65, 100, 256, 1 << 20, 1 << 32, 1 << 62, math.MaxInt}
	for _, n := range wild {
		drive(New(mem.New(500), n, 2, 1, obj.Counter{}))
		drive(New(mem.New(500), 0, n, 1, obj.Counter{}))
		drive(New(mem.New(500), 0, 2, n, obj.Counter{}))
		drive(New(mem.New(500), 0, 2, 1, fool{words: n}))
		drive(New(mem.New(500), n, n, n, fool{words: n}))
		drive(New(mem.New(n%1000), 0, 2, 1, obj.Counter{}))
		Size(obj.Counter{}, n)
		Size(fool{words: n}, 3)
	}
	var none *fool
	for _, o := range []obj.Object{nil, none, fool{13}, fool{3}} {
		Size(o, 2)
		drive(New(mem.New(500), 0, 2, 1, o))
		drive(New(nil, 0, 2, 1, o))
	}
	drive(New(nil, 0, 2, 1, obj.Counter{}))
	drive(nil)
	drive(&Hall{})
	for _, c := range []*Call{nil, {}} {
		c.Step()
		c.Steps()
		c.Answer()
	}
}

// P1: someone else writes into the Frame: each Call is over all the same, within its bound.
func TestOthersWrite(t *testing.T) {
	for seed := range uint64(200) {
		next := dice(seed)
		o := obj.Stack{Room: 3}
		m := mem.New(Size(o, 3))
		h := New(m, 0, 3, 1, o)
		calls := make([]*Call, 3)
		for range 3000 {
			i := next(3)
			if calls[i] == nil {
				calls[i] = h.Call(i, api.Op{A: uint64(next(3)), B: 1})
			}
			if calls[i].Step() {
				calls[i] = nil
			} else if calls[i].Steps() > conf.Call(o.Words(), 3, 1) {
				t.Fatalf("%d steps", calls[i].Steps())
			}
			if next(3) == 0 {
				m.Store(next(m.Len()), uint64(next(5))<<uint(next(64)))
			}
			if next(20) == 0 {
				m.Store(0, word.Of(word.Ref{Worker: next(256), Slot: next(256), Tag: next(9)}))
			}
			h.State()
		}
	}
}
