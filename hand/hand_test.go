package hand

import (
	"math"
	"slices"
	"testing"

	"chandlery/api"
	"chandlery/ask"
	"chandlery/hall"
	"chandlery/heart"
	"chandlery/live"
	"chandlery/mem"
)

// odds are numbers that are no kind, no worker, no size and no address.
var odds = []int{math.MinInt, math.MinInt + 1, math.MinInt + first, -1 << 40, -1 << 32, -first, -1024, -16, -1, 0, 1 << 32, 1<<32 + first, 1 << 40, math.MaxInt - first, math.MaxInt - 1, math.MaxInt}

// The chapter's example.
func TestExample(t *testing.T) {
	for _, c := range systems(t) {
		b := open(t, c)
		want := Progress{Stepped: true, Began: true, Counts: true, Ended: true, Request: alloc(0), Answer: api.Answer{Code: api.ErrSize}}
		if l := b.do(0, alloc(0)); len(l) != 1 || l[0] != want {
			t.Errorf("%v: %v", c, l)
		}
	}
}

// P17.1: a new one does nothing, was asked for nothing, has no blocks, and made no access.
func TestNew(t *testing.T) {
	for _, c := range systems(t) {
		s, _ := ask.Open(c)
		words, ops := s.Memory.Words(), s.Memory.Ops()
		for worker := range c.Workers {
			h := New(s, worker)
			if !h.Idle() || len(h.Queue()) != 0 || h.Step() != (Progress{}) {
				t.Errorf("%v: the worker %d does something", c, worker)
			}
			for class := -1; class <= len(c.Classes); class++ {
				if l := h.Own(class); len(l) != 0 {
					t.Errorf("%v: the worker %d has %v", c, worker, l)
				}
			}
		}
		if s.Memory.Ops() != ops || !slices.Equal(s.Memory.Words(), words) || s.Hall.Count() != 0 {
			t.Errorf("%v: New did something", c)
		}
	}
}

// P17.1: what it is asked for is behind all else, in order, however many it is asked for at once; asking is no step.
func TestQueue(t *testing.T) {
	b := open(t, api.Config{Workers: 2, Supers: 2, Batch: 1, Classes: []int{512}})
	ops := b.s.Memory.Ops()
	b.ask(0)
	b.ask(0, alloc(512))
	b.ask(0, free(3), usable(first), alloc(0))
	b.ask(0)
	b.ask(0, api.Request{Kind: 9, N: 7}, alloc(512))
	if len(b.desks[0].Queue()) != 6 || b.s.Memory.Ops() != ops {
		t.Errorf("Queue: %v behind %d accesses", b.desks[0].Queue(), b.s.Memory.Ops()-ops)
	}
	// In the midst of what it does it may be asked for more; what it does is no part of its Queue.
	b.pick(0)
	b.ask(0, usable(first+512))
	if q := b.desks[0].Queue(); len(q) != 6 || q[0] != free(3) || q[5] != usable(first+512) {
		t.Errorf("Queue in the midst of it: %v", q)
	}
	var codes []api.Errno
	for !b.desks[0].Idle() {
		if p := b.pick(0); p.Ended {
			codes = append(codes, p.Answer.Code)
		}
	}
	if !slices.Equal(codes, []api.Errno{api.OK, api.ErrFree, api.OK, api.ErrSize, api.ErrRange, api.OK, api.OK}) {
		t.Errorf("what came of them: %v", codes)
	}
	if !b.desks[1].Idle() || b.desks[1].Step() != (Progress{}) {
		t.Error("the other worker does something")
	}
}

// P17.1: all that it was asked for ended, so it may be asked again, and begins in the next step, not sooner.
func TestAskedAgain(t *testing.T) {
	b := open(t, api.Config{Workers: 1, Supers: 1, Batch: 1, Classes: []int{512}})
	for n := range 5 {
		for range 3 {
			b.pick(0)
		}
		for i := range n {
			b.ask(0, usable(first+16*i), alloc(0))
		}
		for range 2 * n {
			if p := b.pick(0); !p.Began || !p.Ended {
				t.Fatalf("%v", p)
			}
		}
		if !b.desks[0].Idle() {
			t.Fatal("it isn't Idle")
		}
	}
}

// P2: what it is asked for isn't kept, and its Queue and its own blocks are told by lists of their own.
func TestListsOfTheirOwn(t *testing.T) {
	b := open(t, api.Config{Workers: 1, Supers: 1, Batch: 3, Classes: []int{256}})
	room := []api.Request{alloc(256), usable(first), {Kind: 7}, {Kind: 8}}
	asked := room[:2]
	b.ask(0, asked...)
	asked[0], asked[1] = free(1), free(2)
	b.ask(0, alloc(1))
	if room[2].Kind != 7 || room[3].Kind != 8 {
		t.Errorf("the spare room: %v", room)
	}
	q := b.desks[0].Queue()
	q[0], q[1] = free(3), free(4)
	_ = append(q, free(5))
	b.ask(0, alloc(2))
	if want := []api.Request{alloc(256), usable(first), alloc(1), alloc(2)}; !slices.Equal(b.desks[0].Queue(), want) {
		t.Errorf("Queue: %v, want %v", b.desks[0].Queue(), want)
	}
	for len(b.desks[0].Queue()) > 1 {
		b.pick(0)
	}
	own := b.desks[0].Own(0)
	kept := slices.Clone(own)
	own[0] = api.Block{Super: 5}
	if !slices.Equal(b.desks[0].Own(0), kept) {
		t.Errorf("its own: %v, want %v", b.desks[0].Own(0), kept)
	}
	b.rest()
}

// P17.1: its own blocks are the worker's alone, class by class, the one on top last.
func TestOwn(t *testing.T) {
	b := open(t, api.Config{Workers: 2, Supers: 2, Batch: 3, Classes: []int{128, 256}})
	b.do(0, alloc(100))
	b.do(1, alloc(200))
	for _, x := range []struct {
		worker, class int
		want          []api.Block
	}{
		{0, 0, []api.Block{{Index: 2}, {Index: 1}}},
		{1, 1, []api.Block{{Super: 1, Index: 2}, {Super: 1, Index: 1}}},
		{0, 1, nil}, {1, 0, nil}, {0, -1, nil}, {0, 2, nil}, {0, math.MaxInt, nil}, {0, math.MinInt, nil},
	} {
		if l := b.desks[x.worker].Own(x.class); !slices.Equal(l, x.want) {
			t.Errorf("%d of the worker %d: %v, want %v", x.class, x.worker, l, x.want)
		}
	}
}

// P17.2: what is refused ends in its first step, without an access, with Check's error, and nothing is changed.
func TestRefused(t *testing.T) {
	for _, c := range systems(t) {
		b := open(t, c)
		end := first + 1024*c.Supers
		var l []api.Request
		for _, n := range append(slices.Clone(odds), first+1, first+8, end, end+16, first-16, 1024*c.Supers+1) {
			if n <= 0 || n > 1024*c.Supers {
				l = append(l, alloc(n))
			}
			l = append(l, free(n), usable(n))
		}
		for _, kind := range append(slices.Clone(odds), 4, 5, 1024) {
			l = append(l, api.Request{Kind: kind}, api.Request{Kind: kind, N: 16}, api.Request{Kind: kind, N: first})
		}
		words, ops := b.s.Memory.Words(), b.s.Memory.Ops()
		b.ask(0, l...)
		for _, r := range l {
			want := Progress{Stepped: true, Began: true, Counts: true, Ended: true, Request: r, Answer: api.Answer{Code: api.ErrFree}}
			switch r.Kind {
			case api.Alloc:
				want.Answer.Code = api.ErrSize
			case api.Free, api.Usable:
			default:
				want.Answer.Code = api.ErrRange
			}
			if p := b.pick(0); p != want {
				t.Errorf("%v: %v, want %v", c, p, want)
			}
		}
		if !b.desks[0].Idle() || b.s.Memory.Ops() != ops || !slices.Equal(b.s.Memory.Words(), words) {
			t.Errorf("%v: something was done", c)
		}
	}
}

// P17.2, P17.3: how great something is ends in its first step, whatever is there; one access.
func TestUsable(t *testing.T) {
	for _, c := range systems(t) {
		c.Supers = min(c.Supers, 8)
		b := open(t, c)
		for i := range 12 {
			b.do(i%c.Workers, alloc(1+(i*397)%(2048)))
		}
		for at := first - 40; at < first+1024*c.Supers+40; at++ {
			want := Progress{Stepped: true, Began: true, Counts: true, Ended: true, Request: usable(at), Answer: wrong}
			if x, ok := b.there[at]; ok {
				want.Answer = api.Answer{N: sizeOf(c, x)}
			}
			if l := b.do(0, usable(at)); len(l) != 1 || l[0] != want {
				t.Fatalf("%v: %v, want %v", c, l, want)
			}
		}
		b.liveIs()
	}
}

// P17.2, P17.3: a block of its own is had in one step, in which it began, counts and ended.
func TestAllocOfItsOwn(t *testing.T) {
	b := open(t, api.Config{Workers: 1, Supers: 1, Batch: 2, Classes: []int{512}})
	b.do(0, alloc(512))
	want := Progress{Stepped: true, Began: true, Counts: true, Ended: true, Request: alloc(300), Answer: api.Answer{N: first + 512}}
	if l := b.do(0, alloc(300)); len(l) != 1 || l[0] != want {
		t.Errorf("%v, want %v", l, want)
	}
}

// P17.3: an Alloc that asks all counts in its last step, and is answered in that one alone; where there is no room it never counts.
func TestAllocOfAll(t *testing.T) {
	for _, size := range []int{512, 1024, 2048} {
		b := open(t, api.Config{Workers: 2, Supers: 2, Batch: 1, Tries: 1, Classes: []int{512}})
		for n := range 2 * 2048 / size {
			l := b.do(n%2, alloc(size))
			for i, p := range l {
				want := Progress{Stepped: true, Began: i == 0, Request: alloc(size)}
				if i == len(l)-1 {
					want.Ended, want.Answer = true, full
					if n < 2048/size {
						want.Counts, want.Answer = true, api.Answer{N: first + n*size}
					}
				}
				if p != want {
					t.Errorf("%d bytes, the step %d: %v, want %v", size, i, p, want)
				}
			}
			if len(l) < 3 {
				t.Errorf("%d bytes: %d steps", size, len(l))
			}
		}
		b.liveIs()
	}
}

// P17.3: a Free counts in its first step, whatever it does behind that, and is answered in each one.
func TestFree(t *testing.T) {
	b := open(t, api.Config{Workers: 2, Supers: 3, Batch: 1, Classes: []int{256}})
	for range 3 {
		b.do(0, alloc(256))
	}
	run := b.get(0, alloc(1500)).N
	for _, x := range []struct {
		at   int
		long bool
		want api.Answer
	}{
		{first, false, api.Answer{N: 256}},
		{first, false, wrong},
		{first + 256, false, api.Answer{N: 256}},
		{run + 1024, false, wrong},
		// A third block is one too many: its own all go back.
		{first + 512, true, api.Answer{N: 256}},
		{run, true, api.Answer{N: 2048}},
		{run, false, wrong},
	} {
		l := b.do(1, free(x.at))
		for i, p := range l {
			if want := (Progress{true, i == 0, i == 0, i == len(l)-1, free(x.at), x.want}); p != want {
				t.Errorf("%d, the step %d: %v, want %v", x.at, i, p, want)
			}
		}
		if x.long != (len(l) > 1) {
			t.Errorf("%d: %d steps", x.at, len(l))
		}
	}
	if len(b.desks[0].Own(0)) != 0 || len(b.desks[1].Own(0)) != 0 {
		t.Errorf("their own: %v, %v", b.desks[0].Own(0), b.desks[1].Own(0))
	}
	var asked []api.Op
	for _, e := range b.s.Hall.Entries()[4:] {
		if e.Worker != 1 {
			t.Errorf("Entry: %v", e)
		}
		asked = append(asked, e.Op)
	}
	if !slices.Equal(asked, []api.Op{heart.Flush(0, 7), heart.Give(1)}) {
		t.Errorf("asked was %v", asked)
	}
}

// P17.2: one thing behind the other: the next one begins in the step behind the last one's end, and is the worker's own to do.
func TestOneBehindTheOther(t *testing.T) {
	for _, c := range systems(t) {
		b := open(t, c)
		worker := c.Workers - 1
		l := []api.Request{alloc(1024), free(first), free(first), alloc(1024 * c.Supers), usable(first), alloc(1024), free(first), alloc(1), usable(first), alloc(-1)}
		want := []api.Answer{{N: first}, {N: 1024}, wrong, {N: first}, {N: 1024 * c.Supers}, full, {N: 1024 * c.Supers}, {N: first}, {N: c.Classes[0]}, {Code: api.ErrSize}}
		b.ask(worker, l...)
		for i := range l {
			for n := 0; ; n++ {
				p := b.pick(worker)
				if p.Began != (n == 0) || p.Request != l[i] {
					t.Fatalf("%v: the step %d of %v: %v", c, n, l[i], p)
				}
				if p.Ended {
					if p.Answer != want[i] {
						t.Errorf("%v: %v, want %v", c, p, want[i])
					}
					break
				}
			}
		}
		for _, e := range b.s.Hall.Entries() {
			if e.Worker != worker {
				t.Errorf("%v: Entry: %v", c, e)
			}
		}
		b.rest()
	}
}

// P17.2: a worker that does nothing any more does nothing, however often it steps.
func TestIdleAgain(t *testing.T) {
	for _, c := range systems(t) {
		b := open(t, c)
		b.do(0, alloc(1))
		b.do(0, free(first))
		words, ops := b.s.Memory.Words(), b.s.Memory.Ops()
		for range 50 {
			if p := b.desks[0].Step(); p != (Progress{}) {
				t.Errorf("%v: %v", c, p)
			}
		}
		if b.s.Memory.Ops() != ops || !slices.Equal(b.s.Memory.Words(), words) || !b.desks[0].Idle() {
			t.Errorf("%v: something was done", c)
		}
	}
}

// P17.2: a long Queue: each thing in its turn.
func TestLongQueue(t *testing.T) {
	b := open(t, api.Config{Workers: 1, Supers: 1, Batch: 1, Classes: []int{16}})
	h := b.desks[0]
	const many = 200000
	for n := range many {
		h.Ask(api.Request{Kind: api.Usable, N: n})
	}
	for n := range many {
		if p := h.Step(); p.Request.N != n || !p.Ended {
			t.Fatalf("%d: %v", n, p)
		}
	}
	if !h.Idle() || len(h.Queue()) != 0 {
		t.Errorf("it isn't Idle: %v", h.Queue())
	}
}

// drive: one of which nothing is promised: its calls end, and none panics.
func drive(h *Hand) {
	h.Ask()
	for _, n := range append(slices.Clone(odds), 1, 16, 512, 1024, first, first+16, first+1024) {
		for kind := -1; kind < 5; kind++ {
			h.Ask(api.Request{Kind: kind, N: n})
			for range 40 {
				h.Step()
			}
			h.Own(n)
		}
		h.Queue()
		h.Idle()
	}
	for range 2000 {
		h.Step()
	}
}

// stray are shops that nobody opened.
func stray(t *testing.T) []*ask.Shop {
	t.Helper()
	c := api.Config{Workers: 2, Supers: 2, Batch: 1, Classes: []int{16, 64}}
	s := open(t, c).s
	for i := range 64 {
		// Runs and blocks where none can be.
		s.Live.Mark(first+32*i, []live.Thing{live.Of(1), live.Run(2), live.Of(0)}[i%3])
	}
	return []*ask.Shop{
		nil,
		{},
		{Config: c},
		{Config: c, Hall: s.Hall},
		{Config: c, Live: s.Live},
		{Hall: s.Hall, Live: s.Live},
		{Config: api.Config{Supers: math.MaxInt, Classes: []int{-1, 0, math.MaxInt}}, Memory: &mem.Memory{}, Hall: s.Hall, Live: s.Live},
		{Config: c, Memory: mem.New(3), Hall: &hall.Hall{}, Live: &live.Table{}},
		s,
	}
}

// P1: shops and workers of which nothing is promised: calls end, and none panics.
func TestOfWhatNothingIsPromised(t *testing.T) {
	for _, worker := range []int{math.MinInt, -1, 0, 1, 2, 64, math.MaxInt} {
		for i := range stray(t) {
			drive(New(stray(t)[i], worker))
		}
	}
	var no *Hand
	no.Ask(alloc(1))
	if no.Step() != (Progress{}) || len(no.Queue()) != 0 || len(no.Own(0)) != 0 || !no.Idle() {
		t.Error("no Hand does something")
	}
	drive(no)
	drive(&Hand{})
}

// P1: two Hands that are one worker: nothing is promised, but that calls end.
func TestTwoHandsOfOneWorker(t *testing.T) {
	s := stray(t)[8]
	one, other := New(s, 0), New(s, 0)
	for range 20 {
		one.Ask(alloc(1024), alloc(64), free(first))
		other.Ask(alloc(64), alloc(64), free(first), free(first+1024))
		for range 150 {
			one.Step()
			other.Step()
		}
	}
}
