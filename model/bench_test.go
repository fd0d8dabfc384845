package model

import (
	"maps"
	"slices"
	"testing"

	"chandlery/api"
	"chandlery/conf"
)

// first is the first address of all.
const first = 65536

// Answers that hang on nothing: there is no room, and nothing is live there.
var (
	full  = api.Answer{Code: api.ErrMemory}
	wrong = api.Answer{Code: api.ErrFree}
)

// dice: numbers by a rule, the same in every run.
func dice(seed uint64) func(n int) int {
	return func(n int) int {
		seed = seed*6364136223846793005 + 1442695040888963407
		return int(seed >> 33 % uint64(n))
	}
}

// systems: one and many superblocks, one and many classes, those that fill a superblock and those that don't.
func systems(t *testing.T) []api.Config {
	t.Helper()
	all := []int{}
	for n := range conf.MaxClasses {
		all = append(all, 32*(n+1))
	}
	list := []api.Config{
		{Workers: 1, Supers: 1, Batch: 1, Classes: []int{16, 64}},
		{Workers: 2, Supers: 2, Batch: 1, Classes: []int{512}},
		{Workers: 3, Supers: 3, Batch: 2, Tries: 1, Classes: []int{48, 336, 496}},
		{Workers: 64, Supers: 64, Batch: 64, Tries: 8, Classes: all},
	}
	for _, c := range list {
		if conf.Check(c) != api.OK {
			t.Fatalf("%v may not be", c)
		}
	}
	return list
}

// alloc, free, usable: what a worker may be asked for.
func alloc(size int) api.Request { return api.Request{Kind: api.Alloc, N: size} }

func free(at int) api.Request { return api.Request{Kind: api.Free, N: at} }

func usable(at int) api.Request { return api.Request{Kind: api.Usable, N: at} }

// plain is a Model without anything clever: which addresses are live stands for each of them.
type plain struct {
	c     api.Config
	taken []bool
	there map[int]int // of each address at which something live begins how great it is
}

func newPlain(c api.Config) *plain {
	return &plain{c: c, taken: make([]bool, 1024*c.Supers), there: map[int]int{}}
}

// size: how great it is what is to be had for a size; 0: it can't be asked for.
func (p *plain) size(n int) int {
	if n < 1 || n > 1024*p.c.Supers {
		return 0
	}
	for _, size := range p.c.Classes {
		if size >= n {
			return size
		}
	}
	size := 1024
	for size < n {
		size += 1024
	}
	return size
}

// grain: does a grain begin there?
func (p *plain) grain(at int) bool {
	return at >= first && at < first+1024*p.c.Supers && at%16 == 0
}

// room: is nothing live from an address on, at which a grain begins, up to the end of what is to be there?
func (p *plain) room(at, size int) bool {
	from := at - first
	return size <= len(p.taken)-from && !slices.Contains(p.taken[from:from+size], true)
}

// refused: by which error, if it may not be asked for.
func (p *plain) refused(r api.Request) api.Errno {
	switch r.Kind {
	case api.Alloc:
		if p.size(r.N) == 0 {
			return api.ErrSize
		}
	case api.Free, api.Usable:
		if !p.grain(r.N) {
			return api.ErrFree
		}
	default:
		return api.ErrRange
	}
	return api.OK
}

// may: may it be answered so?
func (p *plain) may(r api.Request, a api.Answer) bool {
	if e := p.refused(r); e != api.OK {
		return a.Code == e && a.N == 0
	}
	if r.Kind == api.Alloc {
		if a.Code == api.OK {
			return p.grain(a.N) && p.room(a.N, p.size(r.N))
		}
		return a.Code == api.ErrMemory && a.N == 0
	}
	n, ok := p.there[r.N]
	if !ok {
		return a.Code == api.ErrFree && a.N == 0
	}
	return a.Code == api.OK && a.N == n
}

// do: it is done, if it may be answered so.
func (p *plain) do(r api.Request, a api.Answer) bool {
	if !p.may(r, a) {
		return false
	}
	if p.refused(r) != api.OK || a.Code != api.OK {
		return true
	}
	switch r.Kind {
	case api.Alloc:
		p.there[a.N] = p.size(r.N)
		p.fill(a.N, true)
	case api.Free:
		p.fill(r.N, false)
		delete(p.there, r.N)
	}
	return true
}

// fill: all of what begins there is live, or isn't.
func (p *plain) fill(at int, live bool) {
	for n := range p.there[at] {
		p.taken[at-first+n] = live
	}
}

// live: what Live should answer.
func (p *plain) live() []api.Interval {
	var l []api.Interval
	for _, at := range slices.Sorted(maps.Keys(p.there)) {
		l = append(l, api.Interval{At: at, Len: p.there[at]})
	}
	return l
}

// bytes: what Bytes should answer.
func (p *plain) bytes() int {
	n := 0
	for _, live := range p.taken {
		if live {
			n++
		}
	}
	return n
}

// same: a Model tells what it should.
func same(t *testing.T, m *Model, want *plain) {
	t.Helper()
	if l := m.Live(); !slices.Equal(l, want.live()) {
		t.Fatalf("%v: Live: %v, want %v", want.c, l, want.live())
	}
	if n := m.Bytes(); n != want.bytes() {
		t.Fatalf("%v: Bytes: %d, want %d", want.c, n, want.bytes())
	}
}

// both is a Model, and what it should be.
type both struct {
	*Model
	t    *testing.T
	want *plain
}

func begun(t *testing.T, c api.Config) *both {
	t.Helper()
	return &both{Model: New(c), t: t, want: newPlain(c)}
}

// do: Do, held against what it should answer, and against what is live behind it.
func (b *both) do(r api.Request, a api.Answer) bool {
	b.t.Helper()
	want := b.want.do(r, a)
	if got := b.Do(r, a); got != want {
		b.t.Fatalf("%v: Do(%v, %v): %v", b.want.c, r, a, got)
	}
	same(b.t, b.Model, b.want)
	return want
}

// must: it may be answered so.
func (b *both) must(r api.Request, a api.Answer) {
	b.t.Helper()
	if !b.do(r, a) {
		b.t.Fatalf("%v: Do(%v, %v): false", b.want.c, r, a)
	}
}

// mustNot: it may not.
func (b *both) mustNot(r api.Request, a api.Answer) {
	b.t.Helper()
	if b.do(r, a) {
		b.t.Fatalf("%v: Do(%v, %v): true", b.want.c, r, a)
	}
}
