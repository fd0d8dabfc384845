package give

import (
	"math"
	"slices"
	"testing"

	"chandlery/api"
	"chandlery/ask"
	"chandlery/hall"
	"chandlery/heart"
	"chandlery/live"
	"chandlery/mask"
	"chandlery/mem"
	"chandlery/stock"
)

// odds are numbers that are no address, and no worker.
var odds = []int{math.MinInt, math.MinInt + 1, math.MinInt + first, -1 << 40, -1 << 32, -first, -1024, -16, -1, 1 << 32, 1<<32 + first, 1 << 40, math.MaxInt - first, math.MaxInt - 15, math.MaxInt - 1, math.MaxInt}

// The chapter's example.
func TestExample(t *testing.T) {
	b := open(t, api.Config{Workers: 1, Supers: 1, Batch: 2, Classes: []int{512}})
	b.take(0, live.Of(0))
	if a, n := b.give(0, 65536); a != (api.Answer{N: 512}) || n != 1 {
		t.Errorf("a block: %v behind %d steps", a, n)
	}
	if a, n := b.give(0, 65536); a != (api.Answer{Code: api.ErrFree}) || n != 1 {
		t.Errorf("once more: %v behind %d steps", a, n)
	}
}

// P16.1: New does nothing yet: no access, and all is as it was.
func TestNewDoesNothing(t *testing.T) {
	for _, c := range systems(t) {
		b := open(t, c)
		b.take(0, live.Run(1))
		b.take(0, live.Of(0))
		want, ops := b.picture(), b.s.Memory.Ops()
		for at := first - 32; at <= first+1024*c.Supers; at += 16 {
			g := New(b.s, 0, b.own[0], at)
			if a, ok := g.Answer(); ok || a != (api.Answer{}) {
				t.Fatalf("%v: Answer ahead of all steps: %v, %v", c, a, ok)
			}
			if a, ok := g.Known(); ok || a != (api.Answer{}) {
				t.Fatalf("%v: Known ahead of all steps: %v, %v", c, a, ok)
			}
		}
		if b.expect(want); b.s.Memory.Ops() != ops {
			t.Errorf("%v: New made %d accesses", c, b.s.Memory.Ops()-ops)
		}
		if b.s.Hall.Call(0, heart.Take(1)) == nil {
			t.Errorf("%v: New asks the hall", c)
		}
	}
}

// P16.2: each block of each class: it comes on top of own, in one step, which takes what was live, and asks no hall.
func TestBlock(t *testing.T) {
	for _, c := range systems(t) {
		c.Batch = 64
		for class, size := range c.Classes {
			b := open(t, c)
			for i := range 1024 / size {
				at := first + 1024*(c.Supers-1) + size*i
				b.s.Live.Mark(at, live.Of(class))
				b.there[at] = live.Of(class)
			}
			for i := range 1024 / size {
				block := api.Block{Super: c.Supers - 1, Index: (i*5 + 1) % (1024 / size)}
				at := first + 1024*block.Super + size*block.Index
				if _, ok := b.there[at]; !ok {
					continue
				}
				ops := b.s.Memory.Ops()
				if a, n := b.give(c.Workers-1, at); a != (api.Answer{N: size}) || n != 1 {
					t.Fatalf("%v: %v behind %d steps", c, a, n)
				}
				if last := b.s.Memory.Last(); b.s.Memory.Ops() != ops+1 || last.Kind != mem.Swaps {
					t.Fatalf("%v: %d accesses, %v", c, b.s.Memory.Ops()-ops, last)
				}
				if l := b.own[c.Workers-1].Blocks(class); l[len(l)-1] != block {
					t.Fatalf("%v: its own are %v, want %v on top", c, l, block)
				}
			}
			if b.s.Hall.Count() != 0 {
				t.Errorf("%v: the hall was asked", c)
			}
		}
	}
}

// P16.2: where nothing is live, amid things and beside them: ErrFree, in one step, and nothing is changed.
func TestNothingLive(t *testing.T) {
	for _, c := range systems(t) {
		c.Supers = min(c.Supers, 8)
		b := open(t, c)
		b.take(0, live.Of(len(c.Classes)-1))
		b.take(0, live.Run(max(1, c.Supers-2)))
		want := b.picture()
		end := first + 1024*c.Supers
		list := append(slices.Clone(odds), 0, 1, 16, 1024, end+1024)
		for at := first - 40; at < end+40; at++ {
			if _, ok := b.there[at]; !ok {
				list = append(list, at)
			}
		}
		for _, at := range list {
			ops := b.s.Memory.Ops()
			a, n := b.finish(New(b.s, c.Workers-1, b.own[c.Workers-1], at))
			accesses := 0
			if at >= first && at < end && at%16 == 0 {
				accesses = 1
			}
			if a != wrong || n != 1 || b.s.Memory.Ops() != ops+accesses {
				t.Fatalf("%v: %d: %v behind %d steps, %d accesses", c, at, a, n, b.s.Memory.Ops()-ops)
			}
		}
		b.expect(want)
	}
}

// P16.2: whoever took it, whoever gives it back has it.
func TestGivenByAnother(t *testing.T) {
	b := open(t, api.Config{Workers: 3, Supers: 3, Batch: 2, Classes: []int{256}})
	one, run := b.take(0, live.Of(0)).N, b.take(1, live.Run(1)).N
	b.give(2, one)
	b.give(0, run)
	if b.own[0].Len(0) != 1 || b.own[2].Len(0) != 1 || b.own[1].Len(0) != 0 {
		t.Errorf("their own: %v, %v, %v", b.own[0].Blocks(0), b.own[1].Blocks(0), b.own[2].Blocks(0))
	}
	if a := b.take(2, live.Of(0)); a.N != one {
		t.Errorf("its own is answered %v", a)
	}
	if e := b.s.Hall.Entries(); len(e) != 3 || e[2].Worker != 0 || e[2].Op != heart.Give(1) || e[2].Answer != (api.Op{A: 1}) {
		t.Errorf("Entries: %v", e)
	}
}

// P16.2: beyond two batches all of one superblock go back, also such as it isn't of that is given; the others stay, in order.
func TestSpill(t *testing.T) {
	b := open(t, api.Config{Workers: 2, Supers: 3, Batch: 1, Classes: []int{256}})
	for range 12 {
		b.take(1, live.Of(0))
	}
	at := func(super, index int) int { return first + 1024*super + 256*index }
	for i, x := range []struct {
		at, steps int
		own       []api.Block
		super     int
		back      mask.Mask
	}{
		{at(1, 3), 1, []api.Block{{Super: 1, Index: 3}}, 1, 0},
		{at(1, 0), 1, []api.Block{{Super: 1, Index: 3}, {Super: 1}}, 1, 0},
		// Two of the superblock 1 go back, with one of the superblock 2.
		{at(2, 1), 2, []api.Block{{Super: 2, Index: 1}}, 1, 9},
		{at(0, 2), 1, []api.Block{{Super: 2, Index: 1}, {Index: 2}}, 0, 0},
		// As many of each: of the first superblock it goes back.
		{at(1, 1), 2, []api.Block{{Super: 2, Index: 1}, {Super: 1, Index: 1}}, 0, 4},
		{at(2, 3), 2, []api.Block{{Super: 1, Index: 1}}, 2, 10},
	} {
		a, n := b.give(0, x.at)
		if a != (api.Answer{N: 256}) || n < x.steps || x.steps == 1 && n != 1 {
			t.Errorf("%d: %v behind %d steps", i, a, n)
		}
		s, _ := b.s.Super(x.super)
		if l := b.own[0].Blocks(0); !slices.Equal(l, x.own) || s.Class != 0 || s.Mask != x.back {
			t.Errorf("%d: its own are %v, want %v; shared are %v", i, l, x.own, s)
		}
	}
	var asked []api.Op
	for _, e := range b.s.Hall.Entries()[12:] {
		if e.Worker != 0 || e.Answer != (api.Op{A: 1}) {
			t.Errorf("Entry: %v", e)
		}
		asked = append(asked, e.Op)
	}
	if !slices.Equal(asked, []api.Op{heart.Flush(1, 9), heart.Flush(0, 4), heart.Flush(2, 10)}) {
		t.Errorf("asked was %v", asked)
	}
	b.whole(true)
}

// P16.2: just two batches stay; one more doesn't.
func TestTwoBatchesStay(t *testing.T) {
	for batch := 1; batch <= 31; batch++ {
		b := open(t, api.Config{Workers: 1, Supers: 1, Batch: batch, Classes: []int{16, 512}})
		for i := range 2*batch + 1 {
			b.s.Live.Mark(first+16*i, live.Of(0))
			b.there[first+16*i] = live.Of(0)
		}
		// All others of the superblock are somebody's, so that what goes back can.
		b.call(0, heart.Refill(0))
		for range 64 / batch {
			b.call(0, heart.Refill(0))
		}
		count := b.s.Hall.Count()
		for i := range 2 * batch {
			if _, n := b.give(0, first+16*i); n != 1 || b.own[0].Len(0) != i+1 {
				t.Fatalf("batches of %d: the block %d behind %d steps", batch, i, n)
			}
		}
		if _, n := b.give(0, first+32*batch); n < 2 || b.own[0].Len(0) != 0 || b.s.Hall.Count() != count+1 {
			t.Errorf("batches of %d: %d steps, %d of its own", batch, n, b.own[0].Len(0))
		}
		if s, _ := b.s.Super(0); s.Mask != mask.Low(2*batch+1) {
			t.Errorf("batches of %d: %v", batch, s)
		}
	}
}

// P16.2: with its last block a superblock is free again, for another class, or a run.
func TestSuperblockIsFreeAgain(t *testing.T) {
	b := open(t, api.Config{Workers: 1, Supers: 1, Batch: 1, Classes: []int{256, 336}})
	for range 3 {
		b.take(0, live.Of(1))
	}
	for i := range 3 {
		if s, _ := b.s.Super(0); s.Free || b.take(0, live.Run(1)) != full {
			t.Fatalf("%v, ahead of the block %d", s, i)
		}
		b.give(0, first+336*i)
	}
	if s, ok := b.s.Super(0); !ok || !s.Free {
		t.Errorf("%v", s)
	}
	if a := b.take(0, live.Run(1)); a != (api.Answer{N: first}) {
		t.Errorf("a run: %v", a)
	}
}

// P16.2: runs of all lengths: all superblocks of one are free again, and no others.
func TestRun(t *testing.T) {
	for _, c := range systems(t) {
		for n := 1; n <= c.Supers; n++ {
			b := open(t, c)
			var l []int
			for len(l) < 8 {
				a := b.take(0, live.Run(n))
				if a == full {
					break
				}
				l = append(l, a.N)
			}
			for i := range l {
				at := l[(i*5+1)%len(l)]
				if _, ok := b.there[at]; !ok {
					continue
				}
				if a, _ := b.give(c.Workers-1, at); a != (api.Answer{N: 1024 * n}) {
					t.Errorf("%v: a run of %d: %v", c, n, a)
				}
				for k := range n {
					if s, _ := b.s.Super((at-first)/1024 + k); !s.Free {
						t.Errorf("%v: %v is of a run of %d still", c, s, n)
					}
				}
			}
		}
	}
}

// P16.2: all is settled behind the first step: what is live, what is its own, what came of it; what goes back isn't there yet.
func TestFirstStepSettles(t *testing.T) {
	c := api.Config{Workers: 1, Supers: 2, Batch: 1, Classes: []int{256}}
	for _, x := range []live.Thing{live.Of(0), live.Run(1)} {
		b := open(t, c)
		for range 3 {
			b.take(0, live.Of(0))
		}
		run := b.take(0, live.Run(1)).N
		b.give(0, first)
		b.give(0, first+256)
		at, size, own := first+512, 256, 0
		if x.Run > 0 {
			at, size, own = run, 1024, 2
		}
		count := b.s.Hall.Count()
		g := New(b.s, 0, b.own[0], at)
		if b.step(g) {
			t.Fatalf("%v: over behind one step", x)
		}
		if last := b.s.Memory.Last(); last.Kind != mem.Swaps {
			t.Errorf("%v: the first step is %v", x, last)
		}
		delete(b.there, at)
		b.liveIs(b.there)
		if a, ok := g.Known(); a != (api.Answer{N: size}) || !ok {
			t.Errorf("%v: known is %v, %v", x, a, ok)
		}
		if b.own[0].Len(0) != own || b.s.Hall.Count() != count {
			t.Errorf("%v: its own are %v; the hall was asked %d times more", x, b.own[0].Blocks(0), b.s.Hall.Count()-count)
		}
		for !b.step(g) {
		}
		if b.own[0].Len(0) != own || b.s.Hall.Count() != count+1 {
			t.Errorf("%v: its own are %v; the hall was asked %d times more", x, b.own[0].Blocks(0), b.s.Hall.Count()-count)
		}
	}
}

// P16.3: alone it takes just one step, and the hall's.
func TestStepsAlone(t *testing.T) {
	for _, c := range systems(t) {
		for n := 1; n <= c.Supers; n++ {
			twin := open(t, c)
			twin.take(0, live.Run(n))
			call := twin.s.Hall.Call(0, heart.Give(0))
			for !call.Step() {
			}
			b := open(t, c)
			b.take(0, live.Run(n))
			if _, steps := b.give(0, first); steps != call.Steps()+1 {
				t.Errorf("%v: a run of %d: %d steps, want one and %d", c, n, steps, call.Steps())
			}
		}
	}
}

// P16.2: long rows, held against a plain reckoning.
func TestLongRows(t *testing.T) {
	for seed, c := range systems(t) {
		next := dice(uint64(seed))
		b := open(t, c)
		w := &crowd{bench: b}
		all := things(c)
		for n := range 700 {
			worker := next(c.Workers)
			switch at, ok := w.some(next); {
			case next(9) == 0:
				b.give(worker, first-64+8*next(128*c.Supers+16))
			case ok && next(16) < 7:
				b.give(worker, at)
			case next(4) == 0:
				b.take(worker, all[next(len(all))])
			default:
				b.take(worker, live.Of(next(min(3, len(c.Classes)))))
			}
			if n%20 == 0 {
				b.whole(true)
			}
		}
		w.clear(next)
	}
}

// usable: what Usable answers, and by how many accesses; nothing is changed.
func (b *bench) usable(at int, want api.Answer) {
	b.t.Helper()
	ops, accesses := b.s.Memory.Ops(), 0
	if at >= first && at < first+1024*b.c.Supers && at%16 == 0 {
		accesses = 1
	}
	if a := Usable(b.s, at); a != want || b.s.Memory.Ops() != ops+accesses {
		b.t.Fatalf("%v: Usable of %d: %v by %d accesses, want %v", b.c, at, a, b.s.Memory.Ops()-ops, want)
	}
}

// P16.4: things of all kinds, all addresses around, and far ones.
func TestUsable(t *testing.T) {
	for _, c := range systems(t) {
		c.Supers = min(c.Supers, 8)
		b := open(t, c)
		all := things(c)
		for i := range 12 {
			b.take(i%c.Workers, all[(i*5+1)%len(all)])
		}
		want := b.picture()
		for at := first - 40; at < first+1024*c.Supers+40; at++ {
			a := wrong
			if x, ok := b.there[at]; ok {
				a = api.Answer{N: sizeOf(c, x)}
			}
			b.usable(at, a)
		}
		for _, at := range append(slices.Clone(odds), 0, 1, 3, 16, 1024) {
			b.usable(at, wrong)
		}
		b.expect(want)
	}
}

// P16.4: it tells each thing as long as it is live.
func TestUsableOfEachThing(t *testing.T) {
	for _, c := range systems(t) {
		for _, x := range things(c) {
			b := open(t, c)
			b.usable(first, wrong)
			b.take(0, x)
			b.usable(first, api.Answer{N: sizeOf(c, x)})
			b.usable(first, api.Answer{N: sizeOf(c, x)})
			b.give(0, first)
			b.usable(first, wrong)
		}
	}
}

// drive: one of which nothing is promised: its calls end, and none panics.
func drive(g *Give) {
	for range 300 {
		g.Known()
		g.Answer()
		g.Step()
	}
	g.Known()
	g.Answer()
}

// stray are shops that nobody opened.
func stray(t *testing.T) []*ask.Shop {
	t.Helper()
	c := api.Config{Workers: 2, Supers: 2, Batch: 1, Classes: []int{16, 64}}
	s := open(t, c).s
	for i := range 64 {
		// Runs and blocks where none can be.
		s.Live.Mark(first+32*i, []live.Thing{live.Of(1), live.Run(2), live.Of(0)}[i%3])
	}
	return []*ask.Shop{
		nil,
		{},
		{Config: c},
		{Config: c, Hall: s.Hall},
		{Config: c, Live: s.Live},
		{Hall: s.Hall, Live: s.Live},
		{Config: api.Config{Supers: math.MaxInt, Classes: []int{-1, 0, math.MaxInt}}, Memory: &mem.Memory{}, Hall: s.Hall, Live: s.Live},
		{Config: c, Memory: mem.New(3), Hall: &hall.Hall{}, Live: &live.Table{}},
		s,
	}
}

// P1: shops, workers, blocks and addresses of which nothing is promised: calls end, and none panics.
func TestOfWhatNothingIsPromised(t *testing.T) {
	other := api.Config{Workers: 1, Supers: 64, Batch: 1, Classes: []int{32, 48, 512}}
	addresses := append(slices.Clone(odds), 0, 1, 16, first+1)
	for i := range 64 {
		addresses = append(addresses, first+32*i)
	}
	for _, worker := range []int{math.MinInt, -1, 0, 1, 2, 64, math.MaxInt} {
		for i := range stray(t) {
			for k := range 4 {
				s := stray(t)[i]
				much := stock.New(other)
				much.Fill(0, 63, mask.Low(32))
				own := []*stock.Stock{nil, {}, stock.New(other), much}[k]
				for _, at := range addresses {
					Usable(s, at)
					drive(New(s, worker, own, at))
				}
			}
		}
	}
	var no *Give
	if a, ok := no.Answer(); !no.Step() || ok || a != (api.Answer{}) {
		t.Errorf("no Give: %v, %v", a, ok)
	}
	if a, ok := no.Known(); ok || a != (api.Answer{}) {
		t.Errorf("known of no Give: %v, %v", a, ok)
	}
	drive(&Give{})
}

// P16.2: what is no block of its class isn't any other one either: nothing comes into own that wasn't given.
func TestNoBlockThere(t *testing.T) {
	b := open(t, api.Config{Workers: 1, Supers: 1, Batch: 1, Classes: []int{16, 64}})
	b.s.Live.Mark(first+16, live.Of(1))
	if a, n := b.finish(New(b.s, 0, b.own[0], first+16)); a != (api.Answer{N: 64}) || n != 1 || b.own[0].Len(1) != 0 {
		t.Errorf("%v behind %d steps, its own are %v", a, n, b.own[0].Blocks(1))
	}
}

// P16.2: what came of it is settled by what was live, whatever the hall answers.
func TestWhateverTheHallAnswers(t *testing.T) {
	b := open(t, api.Config{Workers: 1, Supers: 2, Batch: 1, Classes: []int{256}})
	b.s.Live.Mark(first, live.Run(2))
	b.s.Live.Mark(first+1024, live.Of(0))
	b.own[0].Fill(0, 1, 6)
	for _, x := range []struct{ at, size int }{{first, 2048}, {first + 1024, 256}} {
		// Neither a run nor blocks of a class are the heart's, so it takes nothing back.
		if a, n := b.finish(New(b.s, 0, b.own[0], x.at)); a != (api.Answer{N: x.size}) || n < 2 {
			t.Errorf("%d: %v behind %d steps", x.at, a, n)
		}
	}
	e := b.s.Hall.Entries()
	if len(e) != 2 || e[0] != (hall.Entry{Op: heart.Give(0), At: e[0].At}) || e[1] != (hall.Entry{Op: heart.Flush(1, 7), At: e[1].At}) {
		t.Errorf("Entries: %v", e)
	}
}
