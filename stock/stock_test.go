package stock

import (
	"math"
	"slices"
	"testing"

	"chandlery/api"
	"chandlery/arena"
	"chandlery/conf"
	"chandlery/mask"
)

// wild are numbers that are no class's, superblock's or block's.
var wild = []int{math.MinInt, math.MinInt + 1, -1 << 40, -1 << 32, -65, -1, 64, 65, 1 << 31, 1 << 32, 1 << 40, 1 << 56, math.MaxInt - 1, math.MaxInt}

// system: a Config that may be.
func system(supers, batch int, classes ...int) api.Config {
	return api.Config{Workers: 1, Supers: supers, Batch: batch, Classes: classes}
}

// systems: few and many superblocks, classes and blocks of a batch.
func systems(t *testing.T) []api.Config {
	t.Helper()
	all := []int{}
	for n := range conf.MaxClasses {
		all = append(all, 32*(n+1))
	}
	list := []api.Config{
		system(1, 1, 512),
		system(2, 1, 16, 512),
		system(3, 2, 48, 336),
		system(5, 3, 64, 256, 352),
		system(8, 1, all...),
		system(conf.MaxSupers, 7, all...),
		system(conf.MaxSupers, conf.MaxBatch, 16, 32),
	}
	for _, c := range list {
		if conf.Check(c) != api.OK {
			t.Fatalf("%v may not be", c)
		}
	}
	return list
}

// at: a block.
func at(super, index int) api.Block { return api.Block{Super: super, Index: index} }

// expect: the blocks of a class, the one on top last; Len tells how many.
func expect(t *testing.T, s *Stock, class int, want ...api.Block) {
	t.Helper()
	if got := s.Blocks(class); !slices.Equal(got, want) || s.Len(class) != len(want) {
		t.Fatalf("the class %d: %v, Len %d, want %v", class, got, s.Len(class), want)
	}
}

// push: they come on top, all of them.
func push(t *testing.T, s *Stock, class int, l ...api.Block) {
	t.Helper()
	for _, b := range l {
		if !s.Push(class, b) {
			t.Fatalf("Push(%d, %v): false", class, b)
		}
	}
}

// spillsNot: Spill does nothing.
func spillsNot(t *testing.T, s *Stock, class int) {
	t.Helper()
	before := s.Blocks(class)
	if super, m, ok := s.Spill(class); super != 0 || m != 0 || ok {
		t.Fatalf("Spill(%d): %d, %d, %v", class, super, m, ok)
	}
	expect(t, s, class, before...)
}

// spills: Spill answers these.
func spills(t *testing.T, s *Stock, class, super int, m mask.Mask) {
	t.Helper()
	if i, got, ok := s.Spill(class); i != super || got != m || !ok {
		t.Fatalf("Spill(%d): %d, %d, %v, want %d, %d", class, i, got, ok, super, m)
	}
}

// P12.1: no blocks at first, of any class.
func TestNew(t *testing.T) {
	for _, c := range systems(t) {
		s := New(c)
		for class := range c.Classes {
			expect(t, s, class)
			if b, ok := s.Pop(class); ok || b != (api.Block{}) {
				t.Errorf("Pop of none: %v, %v", b, ok)
			}
			spillsNot(t, s, class)
		}
	}
}

// P12.1: the last one that came goes first.
func TestPushAndPop(t *testing.T) {
	s := New(system(3, 4, 256, 512))
	push(t, s, 0, at(2, 3), at(0, 0), at(1, 2))
	push(t, s, 1, at(0, 0), at(2, 1))
	expect(t, s, 0, at(2, 3), at(0, 0), at(1, 2))
	expect(t, s, 1, at(0, 0), at(2, 1))
	for _, want := range []api.Block{at(1, 2), at(0, 0), at(2, 3)} {
		if b, ok := s.Pop(0); b != want || !ok {
			t.Errorf("Pop: %v, %v, want %v", b, ok, want)
		}
	}
	if b, ok := s.Pop(0); ok || b != (api.Block{}) {
		t.Errorf("Pop of none: %v, %v", b, ok)
	}
	expect(t, s, 0)
	expect(t, s, 1, at(0, 0), at(2, 1))
}

// P12.1: a block that is in the pile isn't pushed, wherever in it it is; one that went is; other classes' piles don't matter.
func TestPushOfOneThatIsThere(t *testing.T) {
	s := New(system(2, 64, 256, 512))
	push(t, s, 0, at(0, 0), at(1, 1), at(0, 1))
	for _, b := range []api.Block{at(0, 0), at(1, 1), at(0, 1)} {
		if s.Push(0, b) {
			t.Errorf("Push of %v once more", b)
		}
	}
	expect(t, s, 0, at(0, 0), at(1, 1), at(0, 1))
	push(t, s, 1, at(0, 0), at(1, 1))
	s.Pop(0)
	push(t, s, 0, at(0, 1))
	s.Pop(0)
	s.Pop(0)
	push(t, s, 0, at(0, 1), at(1, 1))
	expect(t, s, 0, at(0, 0), at(0, 1), at(1, 1))
	expect(t, s, 1, at(0, 0), at(1, 1))
}

// P12.1: just the blocks that layer 5 has an address for.
func TestPushOfAllBlocks(t *testing.T) {
	for _, c := range systems(t) {
		s := New(c)
		for class := -2; class < len(c.Classes)+3; class++ {
			n := 0
			for super := -2; super < c.Supers+3; super++ {
				for index := -2; index < 70; index++ {
					b := at(super, index)
					there := arena.Address(c, class, b) != 0
					if s.Push(class, b) != there {
						t.Fatalf("%v: Push(%d, %v): %v", c, class, b, !there)
					}
					if there {
						n++
					}
				}
			}
			if class >= 0 && class < len(c.Classes) && n != c.Supers*(1024/c.Classes[class]) {
				t.Fatalf("%v: %d blocks of the class %d", c, n, class)
			}
			if s.Len(class) != n || len(s.Blocks(class)) != n {
				t.Fatalf("%v: Len(%d): %d, want %d", c, class, s.Len(class), n)
			}
		}
	}
}

// P12.1 to P12.3: classes, superblocks and blocks that there aren't.
func TestWildNumbers(t *testing.T) {
	s := New(system(2, 1, 16, 512))
	push(t, s, 0, at(0, 0), at(1, 63))
	push(t, s, 1, at(1, 1))
	for _, n := range append(wild, 2, 3) {
		if s.Len(n) != 0 || len(s.Blocks(n)) != 0 {
			t.Errorf("Len(%d): %d, Blocks %v", n, s.Len(n), s.Blocks(n))
		}
		for _, k := range append(wild, 0, 1) {
			if s.Push(n, at(k, k)) || s.Push(1, at(n, k)) || k != 0 && k != 1 && s.Push(1, at(0, k)) {
				t.Errorf("Push with %d, %d", n, k)
			}
			s.Fill(n, k, ^mask.Mask(0))
		}
		s.Fill(0, n, ^mask.Mask(0))
		if b, ok := s.Pop(n); ok || b != (api.Block{}) {
			t.Errorf("Pop(%d): %v, %v", n, b, ok)
		}
		spillsNot(t, s, n)
	}
	expect(t, s, 0, at(0, 0), at(1, 63))
	expect(t, s, 1, at(1, 1))
}

// P12.2: by falling numbers, so that the least one is on top; what can't be is passed over.
func TestFill(t *testing.T) {
	s := New(system(3, 2, 256, 512))
	s.Fill(0, 1, 13)
	expect(t, s, 0, at(1, 3), at(1, 2), at(1, 0))
	expect(t, s, 1)
	s.Fill(0, 0, 0)
	expect(t, s, 0, at(1, 3), at(1, 2), at(1, 0))
	s.Fill(0, 1, 15) // but for one all are there
	expect(t, s, 0, at(1, 3), at(1, 2), at(1, 0), at(1, 1))
	s.Fill(1, 2, ^mask.Mask(0)) // the class has but two
	expect(t, s, 1, at(2, 1), at(2, 0))
	s.Fill(1, 0, ^mask.Mask(3))
	expect(t, s, 1, at(2, 1), at(2, 0))
	s.Fill(1, 0, 1<<63+1)
	expect(t, s, 1, at(2, 1), at(2, 0), at(0, 0))
}

// P12.2: all 64 blocks of a superblock.
func TestFillAll(t *testing.T) {
	s := New(system(2, 64, 16))
	s.Fill(0, 1, ^mask.Mask(0))
	if s.Len(0) != 64 {
		t.Fatalf("Len: %d", s.Len(0))
	}
	for i := range 64 {
		if b, ok := s.Pop(0); b != at(1, i) || !ok {
			t.Fatalf("Pop: %v, %v, want the block %d", b, ok, i)
		}
	}
}

// P12.3: the chapter's example.
func TestExample(t *testing.T) {
	s := New(system(2, 1, 256))
	push(t, s, 0, at(0, 2), at(1, 0), at(1, 3))
	spills(t, s, 0, 1, 9)
	expect(t, s, 0, at(0, 2))
	spillsNot(t, s, 0)
}

// P12.3: nothing up to two batches, all of a superblock from one more on.
func TestSpillEdge(t *testing.T) {
	for batch := 1; batch <= conf.MaxBatch; batch++ {
		s := New(system(3, batch, 16))
		want := mask.Mask(0)
		for i := range 2*batch + 1 {
			spillsNot(t, s, 0)
			b := at(i%3, i/3)
			push(t, s, 0, b)
			if b.Super == 0 {
				want = want.With(b.Index)
			}
		}
		spills(t, s, 0, 0, want)
		spillsNot(t, s, 0)
		if n := s.Len(0); n != 2*batch+1-want.Count() {
			t.Errorf("a batch of %d: %d are left", batch, n)
		}
	}
}

// P12.3: the superblock of which there are most, of those alike the first one, wherever in the pile they are.
func TestSpillPicks(t *testing.T) {
	for _, x := range []struct {
		in    []api.Block
		super int
		m     mask.Mask
		left  []api.Block
	}{
		{[]api.Block{at(3, 0), at(2, 1), at(1, 2)}, 1, 4, []api.Block{at(3, 0), at(2, 1)}},
		{[]api.Block{at(1, 2), at(2, 1), at(3, 0)}, 1, 4, []api.Block{at(2, 1), at(3, 0)}},
		{[]api.Block{at(3, 0), at(1, 1), at(3, 2), at(1, 0)}, 1, 3, []api.Block{at(3, 0), at(3, 2)}},
		{[]api.Block{at(0, 0), at(3, 3), at(1, 1), at(3, 0)}, 3, 9, []api.Block{at(0, 0), at(1, 1)}},
		{[]api.Block{at(3, 3), at(0, 1), at(3, 0), at(0, 0), at(3, 1), at(2, 2)}, 3, 11, []api.Block{at(0, 1), at(0, 0), at(2, 2)}},
		{[]api.Block{at(2, 0), at(2, 1), at(2, 2)}, 2, 7, nil},
		{[]api.Block{at(0, 0), at(0, 1), at(0, 3)}, 0, 11, nil},
	} {
		// A map is gone through in any order: more than once, so that each order comes.
		for range 50 {
			s := New(system(4, 1, 256, 512))
			push(t, s, 1, at(0, 0), at(0, 1))
			push(t, s, 0, x.in...)
			spills(t, s, 0, x.super, x.m)
			expect(t, s, 0, x.left...)
			expect(t, s, 1, at(0, 0), at(0, 1))
		}
	}
}

// P12.3: the first one of all 64, each with as many.
func TestSpillOfManyAlike(t *testing.T) {
	s := New(system(64, 1, 512))
	for super := range 64 {
		push(t, s, 0, at(63-super, 1), at(63-super, 0))
	}
	for super := range 63 {
		spills(t, s, 0, super, 3)
	}
	expect(t, s, 0, at(63, 1), at(63, 0))
	spillsNot(t, s, 0)
}

// P12.3: blocks that spilled can be pushed again; those that stayed can't.
func TestPushBehindSpill(t *testing.T) {
	s := New(system(2, 1, 256))
	push(t, s, 0, at(0, 0), at(1, 0), at(1, 1))
	spills(t, s, 0, 1, 3)
	if s.Push(0, at(0, 0)) {
		t.Error("Push of one that stayed")
	}
	push(t, s, 0, at(1, 1), at(1, 0))
	expect(t, s, 0, at(0, 0), at(1, 1), at(1, 0))
}

// plain is what a Stock should be: rows of blocks, gone through from the first to the last.
type plain struct {
	c    api.Config
	rows [][]api.Block
}

func (p *plain) push(class int, b api.Block) bool {
	if class < 0 || class >= len(p.rows) || b.Super < 0 || b.Super >= p.c.Supers || b.Index < 0 || b.Index >= 1024/p.c.Classes[class] || slices.Contains(p.rows[class], b) {
		return false
	}
	p.rows[class] = append(p.rows[class], b)
	return true
}

func (p *plain) pop(class int) (api.Block, bool) {
	if class < 0 || class >= len(p.rows) || len(p.rows[class]) == 0 {
		return api.Block{}, false
	}
	last := len(p.rows[class]) - 1
	b := p.rows[class][last]
	p.rows[class] = slices.Clone(p.rows[class][:last])
	return b, true
}

func (p *plain) spill(class int) (int, mask.Mask, bool) {
	if class < 0 || class >= len(p.rows) || len(p.rows[class]) <= 2*p.c.Batch {
		return 0, 0, false
	}
	best, out, rest := 0, []api.Block{}, []api.Block{}
	for super := range p.c.Supers {
		var of, others []api.Block
		for _, b := range p.rows[class] {
			if b.Super == super {
				of = append(of, b)
			} else {
				others = append(others, b)
			}
		}
		if len(of) > len(out) {
			best, out, rest = super, of, others
		}
	}
	m := mask.Mask(0)
	for _, b := range out {
		m |= 1 << b.Index
	}
	p.rows[class] = rest
	return best, m, true
}

// dice: numbers below n, one after the other, the same ones each time.
func dice(seed uint64) func(n int) int {
	return func(n int) int {
		seed = seed*6364136223846793005 + 1442695040888963407
		return int(seed >> 33 % uint64(n))
	}
}

// step: one call by chance, of both.
func step(t *testing.T, s *Stock, p *plain, next func(int) int) (spilled bool) {
	t.Helper()
	class, b := next(len(p.rows)+1), at(next(p.c.Supers+1), next(65))
	if class < len(p.rows) && next(10) > 0 {
		b.Index %= 1024 / p.c.Classes[class]
	}
	switch next(8) {
	case 0, 1, 2:
		if got, want := s.Push(class, b), p.push(class, b); got != want {
			t.Fatalf("Push(%d, %v): %v", class, b, got)
		}
	case 3:
		m := mask.Mask(next(1<<31)) << next(64)
		s.Fill(class, b.Super, m)
		for index := 63; index >= 0; index-- {
			if m>>index&1 == 1 {
				p.push(class, at(b.Super, index))
			}
		}
	case 4:
		super, m, ok := s.Spill(class)
		i, n, want := p.spill(class)
		if super != i || m != n || ok != want {
			t.Fatalf("Spill(%d): %d, %d, %v, want %d, %d, %v", class, super, m, ok, i, n, want)
		}
		return ok
	default:
		got, ok := s.Pop(class)
		if b, want := p.pop(class); got != b || ok != want {
			t.Fatalf("Pop(%d): %v, %v, want %v, %v", class, got, ok, b, want)
		}
	}
	return false
}

// P12.1 to P12.3: long rows of calls, held against what should be.
func TestLongRows(t *testing.T) {
	for n, c := range systems(t) {
		s, p, next := New(c), &plain{c: c, rows: make([][]api.Block, len(c.Classes))}, dice(uint64(n))
		spilled := 0
		for range 20000 {
			if step(t, s, p, next) {
				spilled++
			}
			class := next(len(p.rows))
			expect(t, s, class, p.rows[class]...)
		}
		// Where all blocks of the least class are two batches at most, nothing ever spills.
		if most := c.Supers * (1024 / c.Classes[0]); most > 2*c.Batch && spilled < 20 {
			t.Errorf("%v: %d spilled", c, spilled)
		}
	}
}

// P2: the Config isn't kept, nor changed.
func TestConfigIsNotKept(t *testing.T) {
	room := []int{256, 512, 3, 4}
	c := system(2, 4, 16)
	c.Classes = room[:2]
	s := New(c)
	room[0], room[1] = 512, 16
	if !s.Push(0, at(0, 3)) || s.Push(1, at(0, 2)) {
		t.Error("the Config was kept")
	}
	if !slices.Equal(room, []int{512, 16, 3, 4}) {
		t.Errorf("the Config's classes: %d", room)
	}
}

// P2: what Blocks answers is the caller's own; two Stocks share nothing.
func TestAnswersAreNewMemory(t *testing.T) {
	c := system(2, 4, 256)
	s, other := New(c), New(c)
	s.Fill(0, 0, 7)
	a, b := s.Blocks(0), s.Blocks(0)
	a[0] = at(1, 1)
	_ = append(a[:1], at(1, 2), at(1, 3))
	_ = append(b, at(1, 0))
	push(t, s, 0, at(1, 3))
	expect(t, s, 0, at(0, 2), at(0, 1), at(0, 0), at(1, 3))
	if !slices.Equal(b, []api.Block{at(0, 2), at(0, 1), at(0, 0)}) {
		t.Errorf("an answer was changed: %v", b)
	}
	expect(t, other, 0)
	s.Pop(0)
	s.Pop(0)
	push(t, s, 0, at(1, 1))
	if !slices.Equal(b, []api.Block{at(0, 2), at(0, 1), at(0, 0)}) {
		t.Errorf("an answer was changed: %v", b)
	}
}

// drive: all calls end, and none panics.
func drive(s *Stock) {
	for class := -1; class < 4; class++ {
		s.Push(class, api.Block{})
		s.Push(class, at(math.MaxInt, math.MinInt))
		for super := -1; super < 3; super++ {
			s.Fill(class, super, ^mask.Mask(0))
		}
		s.Len(class)
		s.Blocks(class)
		s.Spill(class)
		s.Pop(class)
		s.Spill(class)
	}
}

// P1: Configs and Stocks of which nothing is promised.
func TestWrongStocks(t *testing.T) {
	drive(nil)
	drive(&Stock{})
	for _, n := range append(wild, 0, 1, 2) {
		for _, c := range []api.Config{system(n, 1, 16), system(2, n, 16), system(2, 2, n), system(2, 2, 16, n), system(n, n, n, n), system(2, 2), {}} {
			drive(New(c))
		}
	}
}
