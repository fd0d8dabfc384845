package heart

import (
	"math"
	"slices"
	"strconv"
	"testing"

	"chandlery/api"
	"chandlery/conf"
	"chandlery/hall"
	"chandlery/mask"
	"chandlery/mem"
	"chandlery/obj"
)

// top is the greatest number that can be asked with.
const top = 1<<32 - 1

// wild are numbers that are no superblock's, class's or run's.
var wild = []int{math.MinInt, math.MinInt + 1, -1 << 40, -1 << 32, -65, -1, 64, 65, 255, 256, 1 << 31, top - 1, top, top + 1, 1<<32 + 1, 1 << 40, 1 << 56, math.MaxInt - 1, math.MaxInt}

// system: a Config that may be.
func system(supers, batch int, classes ...int) api.Config {
	return api.Config{Workers: 1, Supers: supers, Batch: batch, Classes: classes}
}

// systems: few and many superblocks, classes and blocks of a batch, such classes as fill a superblock, and such as leave a rest.
func systems(t *testing.T) []api.Config {
	t.Helper()
	all := []int{}
	for n := range conf.MaxClasses {
		all = append(all, 32*(n+1))
	}
	list := []api.Config{
		system(1, 1, 16),
		system(1, 1, 512),
		system(1, 64, 16, 512),
		system(2, 2, 48, 336),
		system(3, 3, 256, 512),
		system(4, 1, 352, 496),
		system(5, 20, all...),
		system(7, 63, 16, 32, 512),
		system(63, 5, 112, 192),
		system(64, 64, all...),
		system(64, 9, 16, 32, 48, 64, 96, 128, 192, 256, 384, 512),
	}
	for _, c := range list {
		if conf.Check(c) != api.OK {
			t.Fatalf("%v may not be", c)
		}
	}
	return list
}

// row: what is asked, and what should be answered.
type row []struct{ ask, want api.Op }

// follow: one behind the other.
func follow(t *testing.T, c api.Config, l row) []uint64 {
	t.Helper()
	h := New(c)
	words := make([]uint64, h.Words())
	for i, x := range l {
		if got := h.Apply(words, x.ask); got != x.want {
			t.Errorf("%d, %v: %v, want %v", i, x.ask, got, x.want)
		}
	}
	return words
}

// expect: the superblocks, by the words.
func expect(t *testing.T, words []uint64, l ...Super) {
	t.Helper()
	for i, want := range l {
		if got, ok := At(words, i); !ok || got != want {
			t.Errorf("At %d: %v, %v, want %v", i, got, ok, want)
		}
	}
	if got, ok := At(words, len(l)); ok || got != (Super{}) {
		t.Errorf("At %d: %v, %v", len(l), got, ok)
	}
}

// none is a superblock that is Free.
var none = Super{Free: true, Class: -1}

// P11.1: kinds are numbered from 1 on.
func TestKinds(t *testing.T) {
	if got, want := []int{Refills, Flushes, Takes, Gives}, []int{1, 2, 3, 4}; !slices.Equal(got, want) {
		t.Errorf("kinds: %d", got)
	}
}

// P11.1: two words for each superblock; all are Free at first; there are no others.
func TestWordsAndAtFirst(t *testing.T) {
	for supers := 1; supers <= conf.MaxSupers; supers++ {
		c := system(supers, 1, 16, 512)
		h := New(c)
		if h.Words() != 2*supers || h.Words() != conf.State(c) {
			t.Fatalf("Words of %d superblocks: %d", supers, h.Words())
		}
		words := make([]uint64, h.Words())
		expect(t, words, slices.Repeat([]Super{none}, supers)...)
		for _, i := range append(wild, supers, supers+1, 2*supers) {
			if i >= 0 && i < supers {
				continue
			}
			if got, ok := At(words, i); ok || got != (Super{}) {
				t.Errorf("%d superblocks, At %d: %v, %v", supers, i, got, ok)
			}
		}
	}
	if got, ok := At(nil, 0); ok || got != (Super{}) {
		t.Errorf("At of no words: %v, %v", got, ok)
	}
}

// P11.1: the kind in the lowest eight bits, the number in the 32 bits behind that; the zero Op of other numbers.
func TestAsks(t *testing.T) {
	blocks := []mask.Mask{0, 1, 6, 1 << 63, ^mask.Mask(0)}
	for _, n := range append(wild, 0, 1, 2, 15, 16, 63, 1<<16, 1<<24) {
		fits := n >= 0 && n <= top
		want := func(kind uint64, m mask.Mask) api.Op {
			if !fits {
				return api.Op{}
			}
			return api.Op{A: kind + uint64(n)*256, B: uint64(m)}
		}
		if got := Refill(n); got != want(1, 0) {
			t.Errorf("Refill(%d): %v", n, got)
		}
		if got := Take(n); got != want(3, 0) {
			t.Errorf("Take(%d): %v", n, got)
		}
		if got := Give(n); got != want(4, 0) {
			t.Errorf("Give(%d): %v", n, got)
		}
		for _, m := range blocks {
			if got := Flush(n, m); got != want(2, m) {
				t.Errorf("Flush(%d, %d): %v", n, m, got)
			}
		}
	}
}

// P11.2: the chapter's example.
func TestExample(t *testing.T) {
	words := follow(t, system(1, 1, 512), row{
		{Refill(0), api.Op{A: 1, B: 1}},
		{Refill(0), api.Op{A: 1, B: 2}},
		{Refill(0), api.Op{}},
	})
	expect(t, words, Super{Class: 0})
}

// P11.2: the first superblock of the class that has blocks, ahead of any Free one, and the first Free one behind that.
func TestRefillPicks(t *testing.T) {
	c := system(4, 1, 256, 512)
	words := follow(t, c, row{
		{Refill(1), api.Op{A: 1, B: 1}},
		{Refill(0), api.Op{A: 2, B: 1}},
		{Refill(1), api.Op{A: 1, B: 2}},
		{Refill(1), api.Op{A: 3, B: 1}}, // the first one has none left
		{Flush(0, 2), api.Op{A: 1}},
		{Refill(1), api.Op{A: 1, B: 2}}, // it comes ahead of the third one
		{Flush(1, 1), api.Op{A: 1}},     // the second one is Free
		{Refill(1), api.Op{A: 3, B: 2}}, // which comes behind those of the class
		{Refill(1), api.Op{A: 2, B: 1}}, // and may be of another class, now
		{Refill(0), api.Op{A: 4, B: 1}},
		{Refill(0), api.Op{A: 4, B: 2}},
		{Refill(0), api.Op{A: 4, B: 4}},
		{Refill(0), api.Op{A: 4, B: 8}},
		{Refill(0), api.Op{}},
		{Refill(1), api.Op{A: 2, B: 2}},
		{Refill(1), api.Op{}},
	})
	expect(t, words, Super{Class: 1}, Super{Class: 1}, Super{Class: 1}, Super{Class: 0})
}

// P11.2: the least blocks, at most a batch of them, and all, if there are no more.
func TestRefillBatches(t *testing.T) {
	for batch := 1; batch <= conf.MaxBatch; batch++ {
		for size := 16; size <= 512; size += 16 {
			h := New(system(1, batch, size))
			words := make([]uint64, h.Words())
			for first := 0; first < 1024/size; first += batch {
				want := api.Op{A: 1}
				for k := first; k < min(first+batch, 1024/size); k++ {
					want.B |= uint64(1) << k
				}
				if got := h.Apply(words, Refill(0)); got != want {
					t.Fatalf("a batch of %d, the class %d: %v, want %v", batch, size, got, want)
				}
			}
			if got := h.Apply(words, Refill(0)); got != (api.Op{}) {
				t.Fatalf("a batch of %d, the class %d: %v of none", batch, size, got)
			}
			expect(t, words, Super{Class: 0})
		}
	}
}

// P11.2: the least blocks of a Mask that has gaps.
func TestRefillOfGaps(t *testing.T) {
	words := follow(t, system(1, 3, 64), row{
		{Refill(0), api.Op{A: 1, B: 0x7}},
		{Refill(0), api.Op{A: 1, B: 0x38}},
		{Refill(0), api.Op{A: 1, B: 0x1C0}},
		{Flush(0, 0x82), api.Op{A: 1}},
		{Refill(0), api.Op{A: 1, B: 0x282}},
		{Flush(0, 0x1), api.Op{A: 1}},
	})
	expect(t, words, Super{Class: 0, Mask: 0xFC01})
}

// P11.2: classes that there aren't.
func TestRefillOfNoClass(t *testing.T) {
	p := newPair(t, system(2, 4, 16, 64))
	for _, n := range append(wild, 2, 3) {
		if got := p.do(Refill(n)); got != (api.Op{}) {
			t.Errorf("Refill(%d): %v", n, got)
		}
	}
	expect(t, p.words, none, none)
}

// P11.3: blocks that come back are there again; with the last of them the superblock is Free, and of no class.
func TestFlush(t *testing.T) {
	c := system(2, 2, 256)
	words := follow(t, c, row{
		{Refill(0), api.Op{A: 1, B: 3}},
		{Flush(0, 2), api.Op{A: 1}},
	})
	expect(t, words, Super{Class: 0, Mask: 14}, none)
	words = follow(t, c, row{
		{Refill(0), api.Op{A: 1, B: 3}},
		{Refill(0), api.Op{A: 1, B: 12}},
		{Refill(0), api.Op{A: 2, B: 3}},
		{Flush(0, 9), api.Op{A: 1}},
		{Flush(0, 2), api.Op{A: 1}},
		{Flush(1, 1), api.Op{A: 1}},
		{Flush(0, 4), api.Op{A: 1}},
	})
	expect(t, words, none, Super{Class: 0, Mask: 13})
	words = follow(t, c, row{
		{Refill(0), api.Op{A: 1, B: 3}},
		{Refill(0), api.Op{A: 1, B: 12}},
		{Flush(0, 15), api.Op{A: 1}}, // all at once
		{Flush(0, 15), api.Op{}},
		{Take(2), api.Op{A: 1}},
	})
	expect(t, words, Super{Class: -1, Run: 2}, Super{Class: -1, Run: -1})
}

// P11.3: a class of 64 blocks, and one that leaves a rest, whose superblocks are Free with their last block, too.
func TestFlushAllBlocks(t *testing.T) {
	for _, size := range []int{16, 48, 336, 352, 496, 512} {
		n := 1024 / size
		h := New(system(1, 64, size))
		words := make([]uint64, h.Words())
		all := h.Apply(words, Refill(0)).B
		if all != uint64(mask.Low(n)) {
			t.Fatalf("the class %d: %x", size, all)
		}
		for k := n - 1; k >= 0; k-- {
			expect(t, words, Super{Class: 0, Mask: mask.Low(n) &^ mask.Low(k+1)})
			if got := h.Apply(words, Flush(0, mask.Mask(1)<<k)); got != (api.Op{A: 1}) {
				t.Fatalf("the class %d, its block %d: %v", size, k, got)
			}
		}
		expect(t, words, none)
	}
}

// P11.3: no superblock, one of no class, no blocks, such as the class hasn't, or such as are in the Mask already.
func TestFlushRefused(t *testing.T) {
	p := newPair(t, system(5, 2, 256))
	p.do(Refill(0))
	p.do(Take(2))
	for _, super := range append(wild, 1, 2, 3, 4, 5, 6) {
		for _, m := range []mask.Mask{0, 1, 2, 3, 15, ^mask.Mask(0)} {
			if got := p.do(Flush(super, m)); got != (api.Op{}) {
				t.Errorf("Flush(%d, %d): %v", super, m, got)
			}
		}
	}
	for _, m := range []mask.Mask{0, 4, 5, 8, 12, 15, 16, 17, 19, 1 << 63, 1<<63 + 1, ^mask.Mask(0), ^mask.Mask(12)} {
		if got := p.do(Flush(0, m)); got != (api.Op{}) {
			t.Errorf("Flush(0, %d): %v", m, got)
		}
	}
	expect(t, p.words, Super{Class: 0, Mask: 12}, Super{Class: -1, Run: 2}, Super{Class: -1, Run: -1}, none, none)
}

// P11.4: the first Free ones in a row; all of a run come back.
func TestTakeAndGive(t *testing.T) {
	words := follow(t, system(6, 1, 512), row{
		{Take(1), api.Op{A: 1}},
		{Refill(0), api.Op{A: 2, B: 1}},
		{Take(2), api.Op{A: 3}},
		{Take(1), api.Op{A: 5}},
		{Take(2), api.Op{}}, // one is left
		{Give(0), api.Op{A: 1}},
		{Take(2), api.Op{}}, // two, but not in a row
		{Give(3), api.Op{}}, // another one of a run
		{Give(1), api.Op{}}, // of a class
		{Give(0), api.Op{}}, // Free
		{Give(6), api.Op{}},
		{Give(2), api.Op{A: 1}},
		{Give(2), api.Op{}},
		{Take(2), api.Op{A: 3}},
		{Give(4), api.Op{A: 1}},
		{Take(2), api.Op{A: 5}},
		{Flush(1, 1), api.Op{A: 1}},
		{Take(3), api.Op{}},
		{Take(2), api.Op{A: 1}},
		{Give(2), api.Op{A: 1}},
	})
	expect(t, words, Super{Class: -1, Run: 2}, Super{Class: -1, Run: -1}, none, none, Super{Class: -1, Run: 2}, Super{Class: -1, Run: -1})
}

// P11.4: from none to more than all.
func TestTakeOfAllNumbers(t *testing.T) {
	for _, supers := range []int{1, 2, 3, 63, 64} {
		for _, n := range append(wild, 0, 1, 2, 3, 62, 63) {
			p := newPair(t, system(supers, 1, 16))
			got := p.do(Take(n))
			if n < 1 || n > supers {
				if got != (api.Op{}) {
					t.Errorf("%d superblocks, Take(%d): %v", supers, n, got)
				}
				continue
			}
			want := slices.Repeat([]Super{none}, supers)
			for i := range n {
				want[i] = Super{Class: -1, Run: -1}
			}
			want[0].Run = n
			if got != (api.Op{A: 1}) {
				t.Errorf("%d superblocks, Take(%d): %v", supers, n, got)
			}
			expect(t, p.words, want...)
			if got := p.do(Give(0)); got != (api.Op{A: 1}) {
				t.Errorf("%d superblocks, Give of %d: %v", supers, n, got)
			}
			expect(t, p.words, slices.Repeat([]Super{none}, supers)...)
		}
	}
}

// P11.4: superblocks that there aren't.
func TestGiveOfNone(t *testing.T) {
	p := newPair(t, system(3, 1, 16))
	p.do(Take(3))
	for _, super := range append(wild, 1, 2, 3, 4) {
		if got := p.do(Give(super)); got != (api.Op{}) {
			t.Errorf("Give(%d): %v", super, got)
		}
	}
}

// P11.4: what is none that may be asked: other kinds, and bits behind the number.
func TestWhatIsNone(t *testing.T) {
	p := newPair(t, system(5, 2, 16, 512))
	p.do(Refill(0))
	p.do(Take(2))
	for kind := range uint64(256) {
		if kind >= Refills && kind <= Gives {
			continue
		}
		for n := range uint64(5) {
			for _, b := range []uint64{0, 1, 3, 1 << 63} {
				if got := p.do(api.Op{A: kind + n<<8, B: b}); got != (api.Op{}) {
					t.Fatalf("the kind %d: %v", kind, got)
				}
			}
		}
	}
	right := []api.Op{Refill(0), Refill(1), Flush(0, 1), Take(1), Give(1)}
	for bit := 40; bit < 64; bit++ {
		for _, op := range right {
			op.A |= 1 << bit
			if got := p.do(op); got != (api.Op{}) {
				t.Fatalf("the bit %d and %v: %v", bit, op, got)
			}
		}
	}
	for _, op := range right {
		if got := p.do(op); got.A == 0 {
			t.Errorf("%v without such a bit: %v", op, got)
		}
	}
}

// P11.2, P11.4: B says nothing but where blocks come back.
func TestOtherB(t *testing.T) {
	p := newPair(t, system(3, 2, 512))
	for _, x := range (row{{Refill(0), api.Op{A: 1, B: 3}}, {Take(2), api.Op{A: 2}}, {Give(1), api.Op{A: 1}}}) {
		x.ask.B = 1<<63 + 5
		if got := p.do(x.ask); got != x.want {
			t.Errorf("%v: %v, want %v", x.ask, got, x.want)
		}
	}
}

// everyAsk: all that may be asked of a small system, and some beyond.
func everyAsk(c api.Config) []api.Op {
	l := []api.Op{{}}
	for n := range max(len(c.Classes), c.Supers) + 2 {
		l = append(l, Refill(n), Take(n), Give(n))
		for m := range mask.Mask(1) << (1024/c.Classes[0] + 1) {
			l = append(l, Flush(n, m))
		}
	}
	return l
}

// P11.2 to P11.4: of small systems all that can become of them, and all that may be asked there.
func TestAllOfSmallSystems(t *testing.T) {
	for _, c := range []api.Config{system(1, 1, 512), system(3, 1, 512), system(3, 2, 496, 512), system(2, 2, 336, 512), system(2, 3, 256, 336), system(4, 64, 352)} {
		seen, asks := map[string]bool{}, everyAsk(c)
		work := []*pair{newPair(t, c)}
		for len(work) > 0 {
			p := work[0]
			work = work[1:]
			for _, op := range asks {
				q := &pair{t: t, h: p.h, words: slices.Clone(p.words), m: p.m.clone()}
				q.do(op)
				if key := name(q); !seen[key] {
					seen[key] = true
					work = append(work, q)
				}
			}
		}
		if len(seen) < 4 {
			t.Errorf("%v: only %d ways to be", c, len(seen))
		}
	}
}

// name: all superblocks of a pair as a text.
func name(p *pair) string {
	text := ""
	for i := range p.m.supers {
		s := p.m.super(i)
		for _, n := range []int{s.Class, s.Run, int(s.Mask)} {
			text += strconv.Itoa(n) + " "
		}
	}
	return text
}

// guess: something to ask, mostly such as can be.
func guess(p *pair, next func(int) int) api.Op {
	super := next(len(p.m.supers) + 1)
	switch next(10) {
	case 0, 1, 2:
		return Refill(next(len(p.m.sizes) + 1))
	case 3:
		return Take(next(len(p.m.supers)/3 + 3))
	case 4:
		return Take(1)
	case 5, 6:
		return Give(super)
	case 7:
		return Flush(super, mask.Mask(1)<<next(64))
	}
	if super == len(p.m.supers) {
		return Flush(super, 1)
	}
	out := ^bitsOf(p.m.supers[super].here)
	if class := p.m.supers[super].class; class >= 0 && next(8) > 0 {
		out &= uint64(mask.Low(1024 / p.m.sizes[class]))
	}
	if next(2) == 0 {
		out &= uint64(next(1<<30)) * 0x9E3779B97F4A7C15
	}
	return Flush(super, mask.Mask(out))
}

// P11.2 to P11.4: long rows of askings, great and small systems, held against what should be.
func TestLongRows(t *testing.T) {
	for n, c := range systems(t) {
		next := dice(uint64(n))
		p := newPair(t, c)
		done := map[uint64]int{}
		for range 20000 {
			op := guess(p, next)
			if p.do(op) != (api.Op{}) {
				done[op.A%256]++
			}
		}
		for kind := uint64(Refills); kind <= Gives; kind++ {
			if done[kind] < 100 {
				t.Errorf("%v: the kind %d was done %d times", c, kind, done[kind])
			}
		}
	}
}

// P11.1 to P11.4: a Heart is an object that many share.
func TestInAHall(t *testing.T) {
	for seed := range uint64(40) {
		next := dice(seed + 77)
		workers := 1 + next(4)
		c := api.Config{Workers: workers, Supers: 1 + next(4), Batch: 1 + next(3), Tries: next(3), Classes: []int{256, 512}}
		var o obj.Object = New(c)
		h := hall.New(mem.New(hall.Size(o, workers)), 0, workers, c.Tries, o)
		p := newPair(t, c)
		calls, seen := make([]*hall.Call, workers), 0
		for range 3000 {
			i := next(workers)
			if calls[i] == nil {
				calls[i] = h.Call(i, guess(p, next))
			}
			if calls[i].Step() {
				calls[i] = nil
			}
			for ; seen < h.Count(); seen++ {
				e := h.Entries()[seen]
				if want := p.do(e.Op); e.Answer != want {
					t.Fatalf("%v: %v, want %v", e.Op, e.Answer, want)
				}
			}
		}
		for i := range c.Supers {
			if got, ok := At(h.State(), i); !ok || got != p.m.super(i) {
				t.Fatalf("At %d: %v, %v, want %v", i, got, ok, p.m.super(i))
			}
		}
	}
}

// P11.1, P2: the Config isn't kept, nor changed.
func TestConfigIsNotKept(t *testing.T) {
	room := []int{256, 512, 3, 4}
	c := system(2, 4, 16)
	c.Classes = room[:2]
	h := New(c)
	room[0], room[1] = 16, 16
	words := make([]uint64, h.Words())
	if got := h.Apply(words, Refill(0)); got != (api.Op{A: 1, B: 15}) {
		t.Errorf("Refill: %v", got)
	}
	if got := h.Apply(words, Refill(1)); got != (api.Op{A: 2, B: 3}) {
		t.Errorf("Refill: %v", got)
	}
	if !slices.Equal(room, []int{16, 16, 3, 4}) {
		t.Errorf("the Config's classes: %d", room)
	}
}

// P2: Apply changes its words alone, not the room behind them; what it does hangs on them alone; At changes nothing.
func TestWordsAlone(t *testing.T) {
	c := system(3, 2, 256, 512)
	h := New(c)
	room := slices.Repeat([]uint64{77}, 2*h.Words())
	words := room[:h.Words()]
	clear(words)
	next, p := dice(3), newPair(t, c)
	for range 2000 {
		op := guess(p, next)
		if got, want := New(c).Apply(words, op), p.do(op); got != want {
			t.Fatalf("%v: %v, want %v", op, got, want)
		}
		before := slices.Clone(words)
		for i := range 5 {
			At(words, i-1)
		}
		if !slices.Equal(before, words) || !slices.Equal(words, p.words) {
			t.Fatalf("words: %v, %v, want %v", before, words, p.words)
		}
	}
	for _, w := range room[h.Words():] {
		if w != 77 {
			t.Fatalf("behind the words: %d", room)
		}
	}
}

// P1: words and Configs of which nothing is promised: calls end, and none panics.
func TestWrongWords(t *testing.T) {
	next := dice(9)
	junk := func() uint64 {
		w := uint64(next(1<<31))<<33 + uint64(next(1<<31))
		return w >> next(64) << next(64)
	}
	for range 20000 {
		c := system(1+next(64), 1+next(64), 16, 512)
		h := New(c)
		words := make([]uint64, h.Words())
		if next(3) == 0 {
			words = make([]uint64, next(200))
		}
		for i := range words {
			words[i] = junk()
			if next(2) == 0 {
				words[i] = uint64(next(6)) + uint64(next(100))<<8
			}
		}
		for _, op := range []api.Op{{A: junk(), B: junk()}, Refill(next(3)), Flush(next(66), mask.Mask(junk())), Take(next(66)), Give(next(66)), Give(0), Give(1)} {
			h.Apply(words, op)
			Heart{}.Apply(words, op)
		}
		for i := range 70 {
			At(words, i-2)
		}
	}
	for _, op := range []api.Op{{}, Refill(0), Flush(0, 1), Take(1), Give(0)} {
		New(system(2, 1, 16)).Apply(nil, op)
		Heart{}.Apply(nil, op)
	}
}

// P1: Configs that may not be.
func TestWrongConfigs(t *testing.T) {
	for _, n := range append(wild, 0, 1, 2) {
		for _, c := range []api.Config{system(n, 1, 16), system(2, n, 16), system(2, 2, n), system(2, 2, 16, n), system(n, n, n, n), system(2, 2), {}} {
			h := New(c)
			for _, words := range [][]uint64{nil, make([]uint64, 4), make([]uint64, min(max(h.Words(), 0), 1000))} {
				for _, op := range []api.Op{{}, Refill(0), Refill(1), Flush(0, 1), Take(1), Take(2), Give(0), Give(1), {A: 1<<64 - 1, B: 1<<64 - 1}} {
					h.Apply(words, op)
				}
			}
		}
	}
}
