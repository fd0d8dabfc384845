package ask

import (
	"math"
	"slices"
	"testing"

	"chandlery/api"
	"chandlery/conf"
	"chandlery/hall"
	"chandlery/heart"
	"chandlery/live"
	"chandlery/mem"
)

// first is the first address of all.
const first = 65536

// wild are numbers that are no size, address, kind or superblock.
var wild = []int{math.MinInt, math.MinInt + 1, math.MinInt + first, -1 << 40, -1 << 32, -first, -1024, -16, -3, -2, -1, 1 << 32, 1<<32 + first, 1 << 40, math.MaxInt - first, math.MaxInt - 1023, math.MaxInt - 15, math.MaxInt - 1, math.MaxInt}

// system: a Config that may be.
func system(supers int, classes ...int) api.Config {
	return api.Config{Workers: 1, Supers: supers, Batch: 1, Classes: classes}
}

// systems: few and many workers, superblocks, classes, blocks of a batch, and tries.
func systems(t *testing.T) []api.Config {
	t.Helper()
	all := []int{}
	for n := range conf.MaxClasses {
		all = append(all, 32*(n+1))
	}
	list := []api.Config{
		system(1, 16),
		system(1, 512),
		system(2, 16, 64),
		{Workers: 2, Supers: 3, Batch: 2, Tries: 1, Classes: []int{256, 512}},
		{Workers: 3, Supers: 2, Batch: 7, Tries: 8, Classes: []int{48, 336, 496}},
		{Workers: 64, Supers: 1, Batch: 64, Classes: []int{16}},
		{Workers: 5, Supers: 64, Batch: 1, Tries: 2, Classes: all},
		{Workers: 64, Supers: 64, Batch: 64, Tries: 8, Classes: all},
	}
	for _, c := range list {
		if conf.Check(c) != api.OK {
			t.Fatalf("%v may not be", c)
		}
	}
	return list
}

// expect: what Check answers.
func expect(t *testing.T, c api.Config, kind, n int, want live.Thing, code api.Errno) {
	t.Helper()
	if got, e := Check(c, api.Request{Kind: kind, N: n}); got != want || e != code {
		t.Errorf("%v: Check of the kind %d and %d: %v, %d, want %v, %d", c, kind, n, got, e, want, code)
	}
}

// P14.1: the chapter's example, and the edges of two classes and three superblocks.
func TestCheckByHand(t *testing.T) {
	c := system(3, 16, 64)
	block := func(class int) live.Thing { return live.Thing{Class: class} }
	run := func(n int) live.Thing { return live.Thing{Class: -1, Run: n} }
	for _, x := range []struct {
		kind, n int
		want    live.Thing
		code    api.Errno
	}{
		{api.Alloc, -1, live.Thing{}, api.ErrSize},
		{api.Alloc, 0, live.Thing{}, api.ErrSize},
		{api.Alloc, 1, block(0), api.OK},
		{api.Alloc, 16, block(0), api.OK},
		{api.Alloc, 17, block(1), api.OK},
		{api.Alloc, 64, block(1), api.OK},
		{api.Alloc, 65, run(1), api.OK},
		{api.Alloc, 1024, run(1), api.OK},
		{api.Alloc, 1025, run(2), api.OK},
		{api.Alloc, 2048, run(2), api.OK},
		{api.Alloc, 2049, run(3), api.OK},
		{api.Alloc, 3072, run(3), api.OK},
		{api.Alloc, 3073, live.Thing{}, api.ErrSize},
		{api.Alloc, 65536, live.Thing{}, api.ErrSize},
		{api.Free, 65536, live.Thing{}, api.OK},
		{api.Free, 65552, live.Thing{}, api.OK},
		{api.Free, 68592, live.Thing{}, api.OK},
		{api.Free, 0, live.Thing{}, api.ErrFree},
		{api.Free, 16, live.Thing{}, api.ErrFree},
		{api.Free, 65520, live.Thing{}, api.ErrFree},
		{api.Free, 65537, live.Thing{}, api.ErrFree},
		{api.Free, 65544, live.Thing{}, api.ErrFree},
		{api.Free, 68591, live.Thing{}, api.ErrFree},
		{api.Free, 68608, live.Thing{}, api.ErrFree},
		{api.Usable, 65536, live.Thing{}, api.OK},
		{api.Usable, 68592, live.Thing{}, api.OK},
		{api.Usable, 65535, live.Thing{}, api.ErrFree},
		{api.Usable, 68608, live.Thing{}, api.ErrFree},
		{0, 16, live.Thing{}, api.ErrRange},
		{0, 65536, live.Thing{}, api.ErrRange},
		{4, 16, live.Thing{}, api.ErrRange},
		{4, 65536, live.Thing{}, api.ErrRange},
	} {
		expect(t, c, x.kind, x.n, x.want, x.code)
	}
}

// sized: what an Alloc of a size should tell, reckoned plainly.
func sized(c api.Config, size int) (live.Thing, api.Errno) {
	if size < 1 || size > 1024*c.Supers {
		return live.Thing{}, api.ErrSize
	}
	for class, most := range c.Classes {
		if size <= most {
			return live.Of(class), api.OK
		}
	}
	n := 1
	for 1024*n < size {
		n++
	}
	return live.Run(n), api.OK
}

// P14.1: all sizes; what is told is no smaller than what is asked for, and may be.
func TestCheckAllSizes(t *testing.T) {
	for _, c := range systems(t) {
		for size := -20; size <= 1024*c.Supers+2000; size++ {
			want, code := sized(c, size)
			expect(t, c, api.Alloc, size, want, code)
			if code == api.OK && want.Size(c) < size {
				t.Errorf("%v: %d bytes for %d", c, want.Size(c), size)
			}
		}
		for _, size := range wild {
			expect(t, c, api.Alloc, size, live.Thing{}, api.ErrSize)
		}
	}
}

// P14.1: all addresses, from ahead of all to behind all.
func TestCheckAllAddresses(t *testing.T) {
	for _, c := range systems(t) {
		end := first + 1024*c.Supers
		for at := first - 2000; at < end+2000; at++ {
			code := api.ErrFree
			if at >= first && at < end && at%16 == 0 {
				code = api.OK
			}
			expect(t, c, api.Free, at, live.Thing{}, code)
			expect(t, c, api.Usable, at, live.Thing{}, code)
		}
		for _, at := range wild {
			expect(t, c, api.Free, at, live.Thing{}, api.ErrFree)
			expect(t, c, api.Usable, at, live.Thing{}, api.ErrFree)
		}
	}
}

// P14.1: other kinds, whatever N is.
func TestCheckOtherKinds(t *testing.T) {
	c := system(2, 16, 64)
	for _, kind := range append(slices.Clone(wild), 0, 4, 5, 8, 16, 255, 257, 258, 259) {
		for _, n := range append(slices.Clone(wild), 0, 1, 16, 1024, 2049, first, first+1, first+16, first+2048) {
			expect(t, c, kind, n, live.Thing{}, api.ErrRange)
		}
	}
}

// open: a shop of a Config that may be.
func open(t *testing.T, c api.Config) *Shop {
	t.Helper()
	s, e := Open(c)
	if e != api.OK || s == nil || s.Memory == nil || s.Hall == nil || s.Live == nil {
		t.Fatalf("%v: Open: %v, %d", c, s, e)
	}
	return s
}

// none is a superblock that is free.
var none = heart.Super{Free: true, Class: -1}

// sameConfig: are all numbers and classes of both the same?
func sameConfig(a, b api.Config) bool {
	return a.Workers == b.Workers && a.Supers == b.Supers && a.Batch == b.Batch && a.Tries == b.Tries && slices.Equal(a.Classes, b.Classes)
}

// P14.2: as at first: all superblocks free, nothing live, nothing done; just the words of the hall and the table.
func TestOpenAtFirst(t *testing.T) {
	for _, c := range systems(t) {
		s := open(t, c)
		if !sameConfig(s.Config, c) {
			t.Errorf("the Config is %v, want %v", s.Config, c)
		}
		if got, want := s.Memory.Len(), hall.Size(heart.New(c), c.Workers)+64*c.Supers; got != want {
			t.Errorf("%v: %d words, want %d", c, got, want)
		}
		if s.Memory.Faults() != 0 || s.Hall.Count() != 0 || len(s.Live.All()) != 0 {
			t.Errorf("%v: %d faults, %d done, %v live", c, s.Memory.Faults(), s.Hall.Count(), s.Live.All())
		}
		for i := range c.Supers {
			if got, ok := s.Super(i); got != none || !ok {
				t.Errorf("%v: Super(%d): %v, %v", c, i, got, ok)
			}
		}
	}
}

// P14.2: the example of two workers and one superblock, whose words are counted by hand.
func TestWordsByHand(t *testing.T) {
	c := api.Config{Workers: 2, Supers: 1, Batch: 1, Classes: []int{512}}
	// The head, four for each worker, four records of 8 words, and 64 grains.
	if got := open(t, c).Memory.Len(); got != 1+4*2+4*8+64 {
		t.Errorf("%d words", got)
	}
}

// P14.2: Configs that may not be.
func TestOpenRefused(t *testing.T) {
	right := api.Config{Workers: 2, Supers: 2, Batch: 2, Tries: 2, Classes: []int{16, 64}}
	open(t, right)
	list := []api.Config{{}}
	for _, n := range append(slices.Clone(wild), 0, 65) {
		for _, change := range []func(*api.Config){
			func(c *api.Config) { c.Workers = n },
			func(c *api.Config) { c.Supers = n },
			func(c *api.Config) { c.Batch = n },
			func(c *api.Config) { c.Classes = []int{n} },
			func(c *api.Config) { c.Classes = []int{16, n} },
		} {
			c := right
			change(&c)
			list = append(list, c)
		}
	}
	for _, n := range []int{math.MinInt, -1, 9, 64, math.MaxInt} {
		c := right
		c.Tries = n
		list = append(list, c)
	}
	for _, classes := range [][]int{nil, {}, {8}, {528}, {1024}, {16, 16}, {64, 16}, {16, 24}, make([]int, 17)} {
		c := right
		c.Classes = classes
		list = append(list, c)
	}
	for _, c := range list {
		if s, e := Open(c); s != nil || e != api.ErrConf {
			t.Errorf("%v: Open: %v, %d", c, s, e)
		}
	}
}

// finish: a worker asks, alone, until it is answered.
func finish(t *testing.T, h *hall.Hall, worker int, op api.Op) api.Op {
	t.Helper()
	call := h.Call(worker, op)
	for !call.Step() {
	}
	got, ok := call.Answer()
	if !ok {
		t.Fatalf("the worker %d has no answer to %v", worker, op)
	}
	return got
}

// P14.2: the hall is one for as many workers as the Config has, and no more.
func TestWorkers(t *testing.T) {
	for _, c := range systems(t) {
		s := open(t, c)
		for worker := range c.Workers {
			if s.Hall.Call(worker, heart.Take(1)) == nil {
				t.Errorf("%v: there is no worker %d", c, worker)
			}
		}
		for _, worker := range []int{-1, c.Workers, 64} {
			if s.Hall.Call(worker, heart.Take(1)) != nil {
				t.Errorf("%v: there is a worker %d", c, worker)
			}
		}
	}
}

// contend: how many steps each of two workers takes, where one asks all over whenever the other is about to succeed.
func contend(h *hall.Hall, every int) []int {
	var steps []int
	slow := h.Call(0, heart.Refill(0))
	for n := 0; !slow.Step(); n++ {
		if n%every != 0 {
			continue
		}
		fast := h.Call(1, heart.Take(1))
		for !fast.Step() {
		}
		steps = append(steps, fast.Steps())
	}
	return append(steps, slow.Steps())
}

// P14.2: the hall's tries are the Config's: it takes as many steps as a hall of so many, whoever comes in between.
func TestTries(t *testing.T) {
	seen := map[int]bool{}
	for tries := range conf.MaxTries + 1 {
		c := api.Config{Workers: 2, Supers: 2, Batch: 1, Tries: tries, Classes: []int{512}}
		o := heart.New(c)
		for _, every := range []int{7, 10, 10000} {
			got := contend(open(t, c).Hall, every)
			want := contend(hall.New(mem.New(hall.Size(o, 2)), 0, 2, tries, o), every)
			if !slices.Equal(got, want) {
				t.Errorf("%d tries: steps %d, want %d", tries, got, want)
			}
			if every == 7 {
				seen[got[len(got)-1]] = true
			}
		}
	}
	if len(seen) != conf.MaxTries+1 {
		t.Errorf("tries can't be told from one another: %v", seen)
	}
}

// P14.2: the heart is one of the Config's classes and batch.
func TestHeart(t *testing.T) {
	c := api.Config{Workers: 2, Supers: 3, Batch: 3, Tries: 1, Classes: []int{256, 512}}
	s := open(t, c)
	for i, x := range []struct{ ask, want api.Op }{
		{heart.Refill(0), api.Op{A: 1, B: 7}},
		{heart.Refill(1), api.Op{A: 2, B: 3}},
		{heart.Refill(2), api.Op{}},
		{heart.Take(2), api.Op{}},
		{heart.Take(1), api.Op{A: 3}},
		{heart.Refill(0), api.Op{A: 1, B: 8}},
		{heart.Refill(0), api.Op{}},
		{heart.Flush(0, 5), api.Op{A: 1}},
	} {
		if got := finish(t, s.Hall, i%2, x.ask); got != x.want {
			t.Errorf("%d: %v, want %v", i, got, x.want)
		}
	}
	for i, want := range []heart.Super{{Class: 0, Mask: 5}, {Class: 1}, {Class: -1, Run: 1}} {
		if got, ok := s.Super(i); got != want || !ok {
			t.Errorf("Super(%d): %v, %v, want %v", i, got, ok, want)
		}
	}
}

// P14.2: Super is the heart's At of the hall's State, at any time, and no access.
func TestSuper(t *testing.T) {
	for _, c := range systems(t) {
		s := open(t, c)
		for n := range 12 {
			op := []api.Op{heart.Refill(n % len(c.Classes)), heart.Take(1 + n%2), heart.Give(n / 3), heart.Flush(0, 1)}[n%4]
			finish(t, s.Hall, n%c.Workers, op)
			// One that isn't over has changed nothing.
			half := s.Hall.Call((n+1)%c.Workers, heart.Take(1))
			half.Step()
			ops := s.Memory.Ops()
			for _, i := range append(slices.Clone(wild), 0, 1, c.Supers/2, c.Supers-1, c.Supers, c.Supers+1, 2*c.Supers, 64) {
				want, is := heart.At(s.Hall.State(), i)
				if got, ok := s.Super(i); got != want || ok != is || ok != (i >= 0 && i < c.Supers) {
					t.Fatalf("%v: Super(%d): %v, %v, want %v, %v", c, i, got, ok, want, is)
				}
			}
			if s.Memory.Ops() != ops {
				t.Fatalf("%v: Super made %d accesses", c, s.Memory.Ops()-ops)
			}
			for !half.Step() {
			}
		}
	}
}

// P14.2: the hall and the table lie apart, and within the memory.
func TestPartsApart(t *testing.T) {
	for _, c := range systems(t) {
		s := open(t, c)
		var want []api.Interval
		for at := first; at < first+1024*c.Supers; at += 16 {
			if !s.Live.Mark(at, live.Run(c.Supers)) {
				t.Fatalf("%v: Mark(%d)", c, at)
			}
			want = append(want, api.Interval{At: at, Len: 1024 * c.Supers})
		}
		for i := range c.Supers {
			if got, _ := s.Super(i); got != none {
				t.Fatalf("%v: Super(%d): %v", c, i, got)
			}
		}
		calls := make([]*hall.Call, c.Workers)
		for worker := range calls {
			calls[worker] = s.Hall.Call(worker, heart.Take(1))
		}
		for over := 0; over < c.Workers; {
			over = 0
			for _, call := range calls {
				if call.Step() {
					over++
				}
			}
		}
		for i := range min(c.Supers, c.Workers) {
			if got, _ := s.Super(i); got != (heart.Super{Class: -1, Run: 1}) {
				t.Fatalf("%v: Super(%d): %v", c, i, got)
			}
		}
		if got := s.Live.All(); !slices.Equal(got, want) || s.Memory.Faults() != 0 {
			t.Fatalf("%v: All: %v, %d faults", c, got, s.Memory.Faults())
		}
		for at := first; at < first+1024*c.Supers; at += 16 {
			s.Live.Take(at)
		}
		if len(s.Live.All()) != 0 || s.Hall.Count() != c.Workers {
			t.Fatalf("%v: %d done, %v live", c, s.Hall.Count(), s.Live.All())
		}
	}
}

// P14.2: the hall and the table are of the shop's own memory.
func TestMemoryIsShared(t *testing.T) {
	s := open(t, system(2, 16, 64))
	ops := s.Memory.Ops()
	s.Live.Mark(first, live.Of(1))
	if s.Memory.Ops() != ops+1 {
		t.Errorf("Mark: %d accesses", s.Memory.Ops()-ops)
	}
	s.Hall.Call(0, heart.Take(1)).Step()
	if s.Memory.Ops() != ops+2 {
		t.Errorf("a step: %d accesses", s.Memory.Ops()-ops-1)
	}
}

// P14.2: two shops share nothing.
func TestShopsApart(t *testing.T) {
	c := system(2, 16, 64)
	a, b := open(t, c), open(t, c)
	finish(t, a.Hall, 0, heart.Take(2))
	a.Live.Mark(first, live.Run(2))
	a.Config.Classes[0] = 32
	if got, _ := b.Super(0); got != none || b.Hall.Count() != 0 || len(b.Live.All()) != 0 || b.Config.Classes[0] != 16 || c.Classes[0] != 16 {
		t.Errorf("the other one: %v, %d, %v, %v, %v", got, b.Hall.Count(), b.Live.All(), b.Config, c)
	}
}

// P14.2, P2: the Config is neither kept nor changed.
func TestConfigIsNotKept(t *testing.T) {
	room := []int{256, 512, 3, 4}
	c := system(2, 16)
	c.Batch = 4
	c.Classes = room[:2]
	s := open(t, c)
	Check(c, api.Request{Kind: api.Alloc, N: 300})
	if !slices.Equal(room, []int{256, 512, 3, 4}) {
		t.Errorf("the classes: %d", room)
	}
	room[0], room[1] = 16, 32
	if !slices.Equal(s.Config.Classes, []int{256, 512}) {
		t.Errorf("the shop's classes: %d", s.Config.Classes)
	}
	if got := finish(t, s.Hall, 0, heart.Refill(0)); got != (api.Op{A: 1, B: 15}) {
		t.Errorf("Refill: %v", got)
	}
	s.Live.Mark(first, live.Of(0))
	if l := s.Live.All(); !slices.Equal(l, []api.Interval{{At: first, Len: 256}}) {
		t.Errorf("All: %v", l)
	}
}

// P1: Configs and shops of which nothing is promised: calls end, and none panics.
func TestOfWhatNothingIsPromised(t *testing.T) {
	numbers := append(slices.Clone(wild), 0, 1, 2, 7, 16, 64, 1024, first, first+16)
	for _, n := range numbers {
		for _, c := range []api.Config{system(n, 16, 64), system(2, n), system(2, 16, n), system(n, n, n), system(n), {Supers: n}, {}} {
			for _, k := range numbers {
				for kind := range 5 {
					Check(c, api.Request{Kind: kind, N: k})
				}
				Check(c, api.Request{Kind: k, N: n})
			}
			Open(c)
		}
		var s *Shop
		if got, ok := s.Super(n); got != (heart.Super{}) || ok {
			t.Errorf("Super(%d) of no shop: %v, %v", n, got, ok)
		}
		(&Shop{}).Super(n)
		(&Shop{Hall: &hall.Hall{}}).Super(n)
	}
}
