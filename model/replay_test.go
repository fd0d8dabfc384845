package model

import (
	"cmp"
	"math"
	"slices"
	"testing"

	"chandlery/api"
	"chandlery/pace"
	"chandlery/yard"
)

// counts: an event that counts at a step.
func counts(point int, r api.Request, a api.Answer) api.Event {
	return api.Event{Request: r, Answer: a, Begin: point, Point: point}
}

// replayed: what Replay should answer.
func replayed(c api.Config, l []api.Event) (*plain, int) {
	p := newPlain(c)
	var row []int
	for i, e := range l {
		if e.Point > 0 {
			row = append(row, i)
		}
	}
	slices.SortFunc(row, func(i, k int) int { return cmp.Or(cmp.Compare(l[i].Point, l[k].Point), cmp.Compare(i, k)) })
	for _, i := range row {
		if !p.do(l[i].Request, l[i].Answer) {
			return p, i
		}
	}
	return p, -1
}

// P22.3: none, and such as don't count.
func TestReplayOfNone(t *testing.T) {
	for _, c := range systems(t) {
		for _, l := range [][]api.Event{nil, {}, {{}}, {counts(0, alloc(16), api.Answer{N: 1})}, {counts(-1, alloc(16), api.Answer{N: first}), counts(math.MinInt, free(first), api.Answer{N: 7})}} {
			m, n := Replay(c, l)
			if n != -1 {
				t.Errorf("%v: Replay of %v: %d", c, l, n)
			}
			same(t, m, newPlain(c))
		}
	}
}

// P22.3: by rising Point, of like ones as they stand in the list; the number is that in the list, and the Model as ahead of it.
func TestReplay(t *testing.T) {
	c := api.Config{Workers: 1, Supers: 1, Batch: 1, Classes: []int{16, 64}}
	a, f := api.Answer{N: first}, api.Answer{N: 16}
	live := api.Interval{At: first, Len: 16}
	for i, x := range []struct {
		l    []api.Event
		n    int
		live []api.Interval
	}{
		{[]api.Event{counts(1, alloc(16), a)}, -1, []api.Interval{live}},
		{[]api.Event{counts(1, alloc(16), a), counts(2, free(first), f)}, -1, nil},
		{[]api.Event{counts(2, free(first), f), counts(1, alloc(16), a)}, -1, nil},
		{[]api.Event{counts(1, free(first), f), counts(2, alloc(16), a)}, 0, nil},
		{[]api.Event{counts(1, free(first), wrong), counts(2, alloc(16), a)}, -1, []api.Interval{live}},
		{[]api.Event{counts(1, free(first), wrong), counts(1, alloc(16), a)}, -1, []api.Interval{live}},
		{[]api.Event{counts(1, alloc(16), a), counts(1, free(first), wrong)}, 1, []api.Interval{live}},
		{[]api.Event{counts(9, alloc(16), a), counts(3, alloc(16), a)}, 0, []api.Interval{live}},
		{[]api.Event{counts(9, alloc(16), a), counts(0, alloc(16), a), counts(3, alloc(16), a), counts(5, free(first), f)}, -1, []api.Interval{live}},
		{[]api.Event{counts(9, alloc(16), a), counts(3, alloc(16), a), counts(5, free(first), f), counts(4, usable(first), wrong)}, 3, []api.Interval{live}},
		{[]api.Event{counts(1, alloc(0), api.Answer{Code: api.ErrSize}), counts(1, alloc(64), full), counts(1, alloc(16), a), counts(1, alloc(1), api.Answer{N: first + 8}), counts(2, free(first), f)}, 3, []api.Interval{live}},
		{[]api.Event{counts(math.MaxInt, free(first), f), counts(math.MaxInt-1, alloc(16), a)}, -1, nil},
	} {
		m, n := Replay(c, x.l)
		if n != x.n || !slices.Equal(m.Live(), x.live) {
			t.Errorf("%d: Replay: %d, Live %v", i, n, m.Live())
		}
		p, k := replayed(c, x.l)
		if k != n {
			t.Errorf("%d: Replay: %d, want %d", i, n, k)
		}
		same(t, m, p)
	}
}

// P22.3: whose an event is, when it began and ended, and how many steps it took, is no matter: only where it counts.
func TestReplayByPointAlone(t *testing.T) {
	c := api.Config{Workers: 1, Supers: 1, Batch: 1, Classes: []int{16, 64}}
	for _, n := range append(slices.Clone(wild), 0, 1) {
		l := []api.Event{
			{Worker: n, Request: free(first), Answer: api.Answer{N: 16}, Steps: n, Begin: n, Point: 8, End: 1},
			{Worker: n, Request: alloc(9), Answer: api.Answer{N: first}, Steps: -n, Begin: 8, Point: 7, End: n},
			{Worker: -n, Request: usable(first), Answer: wrong, Steps: n, Begin: 1, Point: 9, End: n},
		}
		if m, i := Replay(c, l); i != -1 || len(m.Live()) != 0 {
			t.Errorf("%d: Replay: %d, Live %v", n, i, m.Live())
		}
	}
}

// P22.3: the Model goes on from where Replay left it.
func TestReplayGoesOn(t *testing.T) {
	c := api.Config{Workers: 1, Supers: 1, Batch: 1, Classes: []int{16, 64}}
	l := []api.Event{counts(1, alloc(60), api.Answer{N: first + 64}), counts(2, alloc(16), api.Answer{N: first + 112}), counts(3, free(first+64), api.Answer{N: 64})}
	for n, want := range []int{-1, 1, 1} {
		m, i := Replay(c, l[:n+1])
		if i != want {
			t.Fatalf("Replay of %d: %d", n+1, i)
		}
		if m.Do(alloc(16), api.Answer{N: first + 112}) || !m.Do(free(first+64), api.Answer{N: 64}) || !m.Do(alloc(16), api.Answer{N: first + 112}) || m.Bytes() != 16 {
			t.Errorf("behind Replay of %d: %v", n+1, m.Live())
		}
	}
}

// P22.3: long lists in any order, with like Points, most of them right up to some event.
func TestReplayOfLongLists(t *testing.T) {
	whole, broken := 0, 0
	for seed := range uint64(300) {
		next := dice(seed)
		c := systems(t)[next(3)]
		p := newPlain(c)
		var l []api.Event
		point := 1
		for range next(80) {
			r := anyRequest(p, next)
			a := anyAnswer(p, r, next)
			if p.do(r, a) || next(25) == 0 {
				l = append(l, counts(point, r, a), counts(-next(3), r, a))
				point += next(3)
			}
		}
		// Those of other steps may stand anywhere.
		slices.SortStableFunc(l, func(a, b api.Event) int { return cmp.Compare(a.Point*7919%101, b.Point*7919%101) })
		kept := slices.Clone(l)
		m, n := Replay(c, l)
		want, k := replayed(c, l)
		if n != k || !slices.Equal(l, kept) {
			t.Fatalf("%v: Replay of %v: %d, want %d", c, l, n, k)
		}
		same(t, m, want)
		if n < 0 {
			whole++
		} else {
			broken++
		}
	}
	if whole < 50 || broken < 50 {
		t.Errorf("%d are whole, %d broken", whole, broken)
	}
}

// mixed: a Config for few workers, of whom many find no room.
func mixed(next func(int) int) api.Config {
	return api.Config{
		Workers: 1 + next(5),
		Supers:  1 + next(3),
		Batch:   1 + next(3),
		Tries:   next(3),
		Classes: [][]int{{512}, {256, 512}, {16, 496}}[next(3)],
	}
}

// anyOf: something that a Yard's worker may be asked for, sensible or not.
func anyOf(y *yard.Yard, next func(int) int) api.Request {
	supers := y.Config().Supers
	at := first - 64 + 8*next(128*supers+16)
	if l := y.Live(); len(l) > 0 && next(5) > 0 {
		at = l[next(len(l))].At
	}
	switch n := next(20); {
	case n < 6:
		return free(at)
	case n < 8:
		return usable(at)
	case n == 8:
		return api.Request{Kind: next(9) - 3, N: next(1024*supers+200) - 100}
	}
	return alloc([]int{16, 300, 512, 1024}[next(4)])
}

// answered: of a Yard's Events Replay is -1, and what is live in the Model is what the Yard says.
func answered(t *testing.T, y *yard.Yard) {
	t.Helper()
	l := y.Events()
	m, n := Replay(y.Config(), l)
	if n != -1 {
		t.Fatalf("%v: Replay: %d, %v", y.Config(), n, l[n])
	}
	bytes := 0
	for _, i := range y.Live() {
		bytes += i.Len
	}
	if !slices.Equal(m.Live(), y.Live()) || m.Bytes() != bytes {
		t.Fatalf("%v: Live: %v, want %v", y.Config(), m.Live(), y.Live())
	}
}

// P22.4: behind each step of workers who are asked for all kinds of things and step in any order.
func TestOfYards(t *testing.T) {
	early, full := 0, 0
	for seed := range uint64(60) {
		next := dice(seed)
		y, e := yard.New(mixed(next))
		if e != api.OK {
			t.Fatalf("New: %d", e)
		}
		answered(t, y)
		long := 1 + next(40)
		for range 40 {
			worker := next(y.Config().Workers)
			for range next(3) {
				y.Ask(worker, anyOf(y, next))
			}
			for range 1 + next(long) {
				y.Pick(worker)
				answered(t, y)
			}
		}
		for _, e := range y.Events() {
			if e.Point > 0 && e.End == 0 {
				early++
			}
			if e.Code == api.ErrMemory {
				full++
			}
		}
		pace.Finish(y)
		answered(t, y)
	}
	if early < 10 || full < 50 {
		t.Errorf("%d counted ahead of their end, %d found no room", early, full)
	}
}

// P22.4: of the greatest system, too.
func TestOfAGreatYard(t *testing.T) {
	c := systems(t)[3]
	y, _ := yard.New(c)
	next := dice(5)
	for worker := range c.Workers {
		for n := range 6 {
			y.Ask(worker, alloc(1+(worker*37+n*211)%2500), free(first+64*next(1024)), usable(first+1024*next(64)))
		}
	}
	for range 30 {
		pace.Turns(y, 1+next(90))
		pace.Alone(y, next(c.Workers))
		answered(t, y)
	}
	pace.Finish(y)
	answered(t, y)
	if len(y.Live()) < 30 {
		t.Errorf("Live: %v", y.Live())
	}
}

// P22.3, P22.4: what no system answers is found, and what stands ahead of it is as it was.
func TestOfChangedEvents(t *testing.T) {
	c := api.Config{Workers: 3, Supers: 2, Batch: 1, Classes: []int{64, 256}}
	y, _ := yard.New(c)
	next := dice(3)
	for i := range 60 {
		y.Ask(i%3, alloc(20+5*(i%60)), free(first+64*(i%20)), usable(first+64*(i%9)))
	}
	pace.Finish(y)
	answered(t, y)
	found := 0
	for i := range y.Events() {
		for _, change := range []func(e *api.Event){
			func(e *api.Event) { e.Answer.N += 8 },
			func(e *api.Event) { e.Answer.N -= 1024 },
			func(e *api.Event) { e.Code = codes[next(len(codes))] },
			func(e *api.Event) { e.Request.N += 1 + next(300) },
			func(e *api.Event) { e.Kind = next(5) },
			func(e *api.Event) { e.Point = next(y.Clock()) },
		} {
			l := y.Events()
			change(&l[i])
			m, n := Replay(c, l)
			want, k := replayed(c, l)
			if n != k {
				t.Fatalf("Replay: %d, want %d; the event %d is %v", n, k, i, l[i])
			}
			same(t, m, want)
			if n >= 0 {
				found++
			}
		}
	}
	if n := len(y.Events()); found < 3*n {
		t.Errorf("of %d events %d changes were found", n, found)
	}
}

// P1: very many events are replayed without looking through them all for each.
func TestMany(t *testing.T) {
	c := systems(t)[0]
	const many = 100000
	var l []api.Event
	for i := range many {
		l = append(l, counts(2*many-2*i, free(first), api.Answer{N: 16}), counts(2*many-2*i-1, alloc(1), api.Answer{N: first}))
	}
	if m, n := Replay(c, l); n != -1 || m.Bytes() != 0 {
		t.Errorf("Replay: %d, %d bytes", n, m.Bytes())
	}
}
