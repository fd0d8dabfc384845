package model

import (
	"math"
	"slices"
	"testing"

	"chandlery/api"
)

// wild are numbers that are no size, no address, no kind and no error.
var wild = []int{math.MinInt, math.MinInt + 1, -1 << 40, -65536, -16, -1, 1 << 40, math.MaxInt - 1023, math.MaxInt - 15, math.MaxInt - 1, math.MaxInt}

// codes are all errors, and some numbers that are none.
var codes = []api.Errno{math.MinInt, -5, -1, api.OK, api.ErrConf, api.ErrRange, api.ErrSize, api.ErrFree, api.ErrMemory, api.ErrWord, api.ErrLong, 8, math.MaxInt}

// The chapter's example.
func TestExample(t *testing.T) {
	for _, c := range systems(t) {
		l := []api.Event{
			{Worker: 0, Request: alloc(16), Answer: api.Answer{N: first}, Begin: 1, Point: 2, End: 2},
			{Worker: 0, Request: alloc(16), Answer: api.Answer{N: first}, Begin: 3, Point: 4, End: 4},
		}
		m, n := Replay(c, l)
		if n != 1 {
			t.Errorf("%v: Replay: %d", c, n)
		}
		same(t, m, &plain{c: c, taken: slices.Repeat([]bool{true}, c.Classes[0]), there: map[int]int{first: c.Classes[0]}})
	}
}

// P22.1: nothing is live in a new one, and two have nothing of each other.
func TestNew(t *testing.T) {
	for _, c := range systems(t) {
		one, other := begun(t, c), begun(t, c)
		same(t, one.Model, one.want)
		one.must(usable(first), wrong)
		one.must(alloc(1), api.Answer{N: first})
		same(t, other.Model, other.want)
		other.must(usable(first), wrong)
	}
}

// P22.1: by rising At, in whatever order they came, and how many addresses they have.
func TestLive(t *testing.T) {
	b := begun(t, api.Config{Workers: 1, Supers: 4, Batch: 1, Classes: []int{16, 64}})
	for _, x := range []struct{ size, at int }{{65, first + 2048}, {60, first + 64}, {1, first}, {64, first + 4096 - 64}, {16, first + 32}, {1024, first + 1024}} {
		b.must(alloc(x.size), api.Answer{N: x.at})
	}
	want := []api.Interval{{At: first, Len: 16}, {At: first + 32, Len: 16}, {At: first + 64, Len: 64}, {At: first + 1024, Len: 1024}, {At: first + 2048, Len: 1024}, {At: first + 4032, Len: 64}}
	if l := b.Live(); !slices.Equal(l, want) || b.Bytes() != 2208 {
		t.Errorf("Live: %v, %d bytes", l, b.Bytes())
	}
	b.must(free(first+1024), api.Answer{N: 1024})
	b.must(free(first), api.Answer{N: 16})
	if l := b.Live(); !slices.Equal(l, append(want[1:3:3], want[4:]...)) || b.Bytes() != 1168 {
		t.Errorf("Live: %v, %d bytes", l, b.Bytes())
	}
}

// P22.1, P2: the Config is neither changed nor kept, and what is answered is new.
func TestListsOfTheirOwn(t *testing.T) {
	room := []int{16, 64, 7}
	c := api.Config{Workers: 1, Supers: 1, Batch: 1, Classes: room[:2]}
	l := []api.Event{{Request: alloc(17), Answer: api.Answer{N: first}, Begin: 1, Point: 2}, {Request: alloc(16), Answer: api.Answer{N: first + 64}, Begin: 1, Point: 1}, {}}[:2]
	kept := slices.Clone(l[:3])
	m := New(c)
	r, n := Replay(c, l)
	if n != -1 || !slices.Equal(l[:3], kept) || !slices.Equal(room, []int{16, 64, 7}) {
		t.Fatalf("Replay: %d; %v, %v", n, l[:3], room)
	}
	room[0], room[1] = 32, 128
	l[0].Request, l[1].Answer = alloc(1), api.Answer{N: first + 512}
	if !m.Do(alloc(16), api.Answer{N: first}) || !m.Do(alloc(17), api.Answer{N: first + 128}) || !r.Do(alloc(17), api.Answer{N: first + 128}) {
		t.Error("Do")
	}
	want := []api.Interval{{At: first, Len: 16}, {At: first + 128, Len: 64}}
	of := []api.Interval{{At: first, Len: 64}, {At: first + 64, Len: 16}, {At: first + 128, Len: 64}}
	m.Live()[0] = api.Interval{At: 1, Len: 1}
	_ = append(m.Live()[:1], api.Interval{})
	if !slices.Equal(m.Live(), want) || !slices.Equal(r.Live(), of) {
		t.Errorf("Live: %v, %v", m.Live(), r.Live())
	}
	before := m.Live()
	m.Do(free(first), api.Answer{N: 16})
	if !slices.Equal(before, want) {
		t.Errorf("what was answered is %v", before)
	}
}

// edges: numbers around those of a Config's classes, superblocks and addresses, and far from them.
func edges(c api.Config) []int {
	l := append(slices.Clone(wild), 0, 1, 5)
	for _, n := range append(slices.Clone(c.Classes), 1024, 1024*c.Supers, first, first+16, first+512, first+1024, first+1024*c.Supers-16, first+1024*c.Supers) {
		l = append(l, n-16, n-1, n, n+1, n+16)
	}
	slices.Sort(l)
	return slices.Compact(l)
}

// P22.2: what may not be asked for: that error alone, and no N beside it.
func TestRefused(t *testing.T) {
	for _, c := range systems(t) {
		b := begun(t, c)
		b.must(alloc(1), api.Answer{N: first})
		for _, x := range []struct {
			r api.Request
			e api.Errno
		}{
			{alloc(0), api.ErrSize}, {alloc(-1), api.ErrSize}, {alloc(1024*c.Supers + 1), api.ErrSize}, {alloc(math.MaxInt), api.ErrSize}, {alloc(math.MinInt), api.ErrSize},
			{free(0), api.ErrFree}, {free(first + 1), api.ErrFree}, {free(first - 16), api.ErrFree}, {free(first + 1024*c.Supers), api.ErrFree}, {free(math.MinInt), api.ErrFree},
			{usable(first + 8), api.ErrFree}, {usable(first - 1), api.ErrFree}, {usable(first + 1024*c.Supers), api.ErrFree}, {usable(math.MaxInt), api.ErrFree},
			{api.Request{}, api.ErrRange}, {api.Request{N: first}, api.ErrRange}, {api.Request{Kind: 4, N: 16}, api.ErrRange}, {api.Request{Kind: -1, N: 16}, api.ErrRange}, {api.Request{Kind: math.MaxInt}, api.ErrRange},
		} {
			for _, e := range codes {
				for _, n := range []int{-16, -1, 0, 1, 16, c.Classes[0], first, first + 512, x.r.N} {
					if got := b.do(x.r, api.Answer{Code: e, N: n}); got != (e == x.e && n == 0) {
						t.Fatalf("%v: Do of %v by %d and %d: %v", c, x.r, e, n, got)
					}
				}
			}
		}
	}
}

// P22.2: all kinds of requests and all kinds of answers, where something is live, and where nothing is.
func TestAllAnswers(t *testing.T) {
	for _, c := range systems(t)[:3] {
		for _, busy := range []bool{false, true} {
			ns := edges(c)
			for kind := -1; kind <= 5; kind++ {
				for _, n := range ns {
					b := begun(t, c)
					if busy {
						b.must(alloc(1), api.Answer{N: first + 16})
						b.must(alloc(c.Classes[0]), api.Answer{N: first + 1024*c.Supers - c.Classes[0]})
					}
					before := b.want.live()
					for _, a := range answers(ns) {
						if r := (api.Request{Kind: kind, N: n}); b.Do(r, a) != b.want.do(r, a) {
							t.Fatalf("%v: Do(%v, %v)", c, r, a)
						} else if got := b.Live(); !slices.Equal(got, before) {
							same(t, b.Model, b.want)
							before = got
						}
					}
					same(t, b.Model, b.want)
				}
			}
		}
	}
}

// answers: of each error, and of each of these numbers.
func answers(ns []int) []api.Answer {
	var l []api.Answer
	for _, e := range codes {
		for _, n := range ns {
			l = append(l, api.Answer{Code: e, N: n})
		}
	}
	return l
}

// P22.2: of each size, at each address around all that there are: where a grain begins, and it ends at the end at most.
func TestAllocEverywhere(t *testing.T) {
	for _, c := range systems(t)[:3] {
		end := first + 1024*c.Supers
		for _, size := range edges(c) {
			want := newPlain(c)
			got := New(c)
			for at := first - 40; at <= end+40; at++ {
				r, a := alloc(size), api.Answer{N: at}
				may := want.may(r, a)
				if got.Do(r, a) != may {
					t.Fatalf("%v: Do(%v, %v): %v", c, r, a, !may)
				}
				if may && !got.Do(free(at), api.Answer{N: want.size(size)}) {
					t.Fatalf("%v: Do of a Free of %d", c, at)
				}
			}
			same(t, got, want)
		}
	}
}

// P22.2: it may end where all ends, not behind that; a run need not begin where a superblock does.
func TestAllocAtTheEnd(t *testing.T) {
	c := api.Config{Workers: 1, Supers: 2, Batch: 1, Classes: []int{16, 64, 512}}
	b := begun(t, c)
	end := first + 2048
	for _, x := range []struct {
		size, len int
	}{{1, 16}, {16, 16}, {17, 64}, {64, 64}, {65, 512}, {512, 512}, {513, 1024}, {1024, 1024}, {1025, 2048}, {2048, 2048}} {
		b.must(alloc(x.size), api.Answer{N: end - x.len})
		b.must(usable(end-x.len), api.Answer{N: x.len})
		b.must(free(end-x.len), api.Answer{N: x.len})
		for n := 16; n <= x.len && n <= 128; n += 16 {
			b.mustNot(alloc(x.size), api.Answer{N: end - x.len + n})
		}
		b.mustNot(alloc(x.size), api.Answer{N: end})
		b.mustNot(alloc(x.size), api.Answer{N: first - 16})
		b.mustNot(alloc(x.size), api.Answer{N: end - x.len - 8})
	}
	b.must(alloc(600), api.Answer{N: first + 16})
	b.mustNot(alloc(600), api.Answer{N: first + 1024})
}

// P22.2: it shares no address with what is live, from either side, within it, or around it; it may lie beside it.
func TestAllocBesideWhatIsLive(t *testing.T) {
	c := api.Config{Workers: 1, Supers: 3, Batch: 1, Classes: []int{16, 64}}
	for at := first + 1024 - 80; at <= first+1024+80; at += 16 {
		for _, size := range []int{16, 64, 1024} {
			b := begun(t, c)
			b.must(alloc(64), api.Answer{N: first + 1024})
			apart := at+size <= first+1024 || at >= first+1024+64
			if got := b.do(alloc(size), api.Answer{N: at}); got != apart {
				t.Errorf("an Alloc of %d at %d: %v", size, at, got)
			}
		}
	}
	b := begun(t, c)
	b.must(alloc(16), api.Answer{N: first + 1024 + 496})
	b.mustNot(alloc(1024), api.Answer{N: first + 1024})
	b.mustNot(alloc(3072), api.Answer{N: first})
	b.must(alloc(1024), api.Answer{N: first})
	b.must(free(first+1024+496), api.Answer{N: 16})
	b.must(alloc(1024), api.Answer{N: first + 1024})
}

// P22.2: that there is no room may be said whatever is live; that there is, of an error, never.
func TestNoRoom(t *testing.T) {
	for _, c := range systems(t) {
		b := begun(t, c)
		for _, size := range []int{1, c.Classes[0], 513, 1024 * c.Supers} {
			b.must(alloc(size), full)
			for _, n := range []int{first, first + 16, 1, -1, c.Classes[0]} {
				b.mustNot(alloc(size), api.Answer{Code: api.ErrMemory, N: n})
			}
			b.mustNot(alloc(size), api.Answer{Code: api.ErrSize})
			b.mustNot(alloc(size), api.Answer{})
		}
		b.must(alloc(1024*c.Supers), api.Answer{N: first})
		b.must(alloc(1), full)
		b.mustNot(free(first), full)
		b.mustNot(usable(first), full)
	}
}

// P22.2: a Usable tells how great what begins there is, and changes nothing; a Free does, and it is gone.
func TestFreeAndUsable(t *testing.T) {
	b := begun(t, api.Config{Workers: 1, Supers: 2, Batch: 1, Classes: []int{48, 64}})
	b.must(alloc(50), api.Answer{N: first + 48})
	b.must(alloc(1000), api.Answer{N: first + 1024})
	for _, x := range []struct{ at, len int }{{first + 48, 64}, {first + 1024, 1024}} {
		for _, kind := range []int{api.Free, api.Usable} {
			for _, n := range []int{0, 1, 50, 48, x.len - 1, x.len + 1, -x.len, x.at} {
				b.mustNot(api.Request{Kind: kind, N: x.at}, api.Answer{N: n})
			}
			for _, e := range codes {
				if e != api.OK {
					b.mustNot(api.Request{Kind: kind, N: x.at}, api.Answer{Code: e, N: x.len})
					b.mustNot(api.Request{Kind: kind, N: x.at}, api.Answer{Code: e})
				}
			}
			for _, at := range []int{x.at - 16, x.at + 16, x.at + 32, x.at + 48} {
				b.must(api.Request{Kind: kind, N: at}, wrong)
				b.mustNot(api.Request{Kind: kind, N: at}, api.Answer{N: x.len})
				b.mustNot(api.Request{Kind: kind, N: at}, api.Answer{Code: api.ErrFree, N: x.len})
				b.mustNot(api.Request{Kind: kind, N: at}, api.Answer{})
			}
		}
		b.must(usable(x.at), api.Answer{N: x.len})
		b.must(usable(x.at), api.Answer{N: x.len})
		b.must(free(x.at), api.Answer{N: x.len})
		b.mustNot(free(x.at), api.Answer{N: x.len})
		b.mustNot(usable(x.at), api.Answer{N: x.len})
		b.must(free(x.at), wrong)
		b.must(usable(x.at), wrong)
	}
	if b.Bytes() != 0 {
		t.Errorf("Bytes: %d", b.Bytes())
	}
}

// P22.1, P22.2: long rows of requests and answers, sensible or not.
func TestLongRows(t *testing.T) {
	for seed := range uint64(80) {
		next := dice(seed)
		b := begun(t, systems(t)[next(3)])
		done := 0
		for range 400 {
			r := anyRequest(b.want, next)
			if b.do(r, anyAnswer(b.want, r, next)) {
				done++
			}
		}
		if done < 100 || done > 390 {
			t.Errorf("%d of 400 may be answered so", done)
		}
	}
}

// anyRequest: something that a worker may be asked for, or may not.
func anyRequest(p *plain, next func(int) int) api.Request {
	at := first - 32 + 8*next(128*p.c.Supers+8)
	if l := p.live(); len(l) > 0 && next(3) > 0 {
		at = l[next(len(l))].At
	}
	switch next(8) {
	case 0, 1:
		return free(at)
	case 2:
		return usable(at)
	case 3:
		return api.Request{Kind: next(8) - 2, N: next(1024*p.c.Supers+40) - 20}
	}
	return alloc(1 + next(600))
}

// anyAnswer: mostly as it may be answered, else nearly so.
func anyAnswer(p *plain, r api.Request, next func(int) int) api.Answer {
	a := api.Answer{Code: p.refused(r)}
	switch {
	case a.Code != api.OK:
	case r.Kind == api.Alloc:
		a.N = first + 16*next(64*p.c.Supers)
		if !p.may(r, a) && next(2) > 0 {
			a = full
		}
	default:
		if a.N = p.there[r.N]; a.N == 0 {
			a.Code = api.ErrFree
		}
	}
	if next(6) == 0 {
		a.N += []int{1, -1, 16, -16, 8}[next(5)]
	}
	if next(10) == 0 {
		a.Code = codes[next(len(codes))]
	}
	return a
}

// P1: no Model, and one that New didn't make; Configs that may not be: calls end, and none panics.
func TestOfWhatNothingIsPromised(t *testing.T) {
	configs := []api.Config{{}, {Supers: 1}, {Classes: []int{}}, {Supers: 2, Classes: []int{64, 16, 0, -5, 3}}}
	for _, n := range wild {
		configs = append(configs, api.Config{Supers: n, Classes: []int{16}}, api.Config{Workers: n, Supers: 1, Batch: n, Tries: n, Classes: []int{n}}, api.Config{Supers: n, Classes: []int{n, 16, n}})
	}
	models := []*Model{nil, {}}
	for _, c := range configs {
		models = append(models, New(c))
		if m, _ := Replay(c, []api.Event{{Request: alloc(16), Answer: api.Answer{N: first}, Point: 1}, {Request: free(first), Answer: api.Answer{N: 16}, Point: -1}}); m == nil {
			t.Errorf("%v: no Model", c)
		}
	}
	for _, m := range models {
		for kind := range 5 {
			for _, n := range append(slices.Clone(wild), 0, 1, 16, 1000, first, first+1, first+16) {
				for _, at := range append(slices.Clone(wild), 0, 16, first, first+16, first+1024) {
					m.Do(api.Request{Kind: kind, N: n}, api.Answer{N: at})
					m.Do(api.Request{Kind: kind, N: n}, api.Answer{Code: api.ErrFree, N: at})
				}
				m.Live()
				m.Bytes()
			}
		}
	}
	if models[0].Do(alloc(0), api.Answer{Code: api.ErrSize}) || len(models[0].Live()) != 0 || models[0].Bytes() != 0 {
		t.Error("no Model does something")
	}
}
