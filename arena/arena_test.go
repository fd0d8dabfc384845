package arena

import (
	"math"
	"slices"
	"testing"

	"chandlery/api"
	"chandlery/conf"
	"chandlery/mask"
)

// wild are numbers that are no superblock's, class's, block's, size's or address's.
var wild = []int{math.MinInt, math.MinInt + 1, math.MinInt + Base, -1 << 40, -1 << 32, -Base, -1024, -16, -1, 1 << 32, 1<<32 + Base, 1 << 40, math.MaxInt - Base, math.MaxInt - 15, math.MaxInt - 1, math.MaxInt}

// system: a Config that may be, with so many superblocks, and such classes.
func system(supers int, classes ...int) api.Config {
	return api.Config{Workers: 1, Supers: supers, Batch: 1, Classes: classes}
}

// systems: few and many superblocks and classes, such that fill a superblock, and such that leave a rest.
func systems(t *testing.T) []api.Config {
	t.Helper()
	all := []int{}
	for n := range conf.MaxClasses {
		all = append(all, 32*(n+1))
	}
	list := []api.Config{
		system(1, 16),
		system(1, 512),
		system(2, 16, 64),
		system(2, 16, 64, 96),
		system(3, 48, 80, 112, 336, 352, 496),
		system(5, all...),
		system(conf.MaxSupers, 16, 32, 48, 64, 96, 128, 192, 256, 384, 512),
	}
	for _, c := range list {
		if conf.Check(c) != api.OK {
			t.Fatalf("%v may not be", c)
		}
	}
	return list
}

// refuse: Place and Block answer noughts and false.
func refuse(t *testing.T, c api.Config, at int) {
	t.Helper()
	if super, grain, ok := Place(c, at); super != 0 || grain != 0 || ok {
		t.Errorf("%v: Place(%d): %d, %d, %v", c, at, super, grain, ok)
	}
	for class := range c.Classes {
		if b, ok := Block(c, class, at); b != (api.Block{}) || ok {
			t.Errorf("%v: Block(%d, %d): %v, %v", c, class, at, b, ok)
		}
	}
}

// P5.1: from 65536 on, 1024 of each superblock.
func TestMostAndEnd(t *testing.T) {
	if Base != 65536 {
		t.Errorf("Base: %d", Base)
	}
	for supers := 1; supers <= conf.MaxSupers; supers++ {
		c := system(supers, 16, 512)
		if got := Most(c); got != 1024*supers {
			t.Errorf("Most of %d superblocks: %d", supers, got)
		}
		if got := End(c); got != 65536+1024*supers {
			t.Errorf("End of %d superblocks: %d", supers, got)
		}
	}
}

// P5.1: reckoned by hand.
func TestPlaceByHand(t *testing.T) {
	c := system(2, 16, 64, 96)
	for _, p := range []struct{ at, super, grain int }{
		{65536, 0, 0},
		{65552, 0, 1},
		{66544, 0, 63},
		{66560, 1, 0},
		{66576, 1, 1},
		{67568, 1, 63},
	} {
		super, grain, ok := Place(c, p.at)
		if super != p.super || grain != p.grain || !ok {
			t.Errorf("Place(%d): %d, %d, %v, want %d, %d", p.at, super, grain, ok, p.super, p.grain)
		}
	}
	for _, at := range []int{0, 1, 16, 1024, 65519, 65520, 65535, 65537, 65551, 66559, 66561, 67567, 67569, 67583, 67584, 67600} {
		if super, grain, ok := Place(c, at); super != 0 || grain != 0 || ok {
			t.Errorf("Place(%d): %d, %d, %v", at, super, grain, ok)
		}
	}
}

// P5.1: each address, from far below all to far behind all, is either the next grain's or none's.
func TestPlaceOfAllAddresses(t *testing.T) {
	for _, c := range systems(t) {
		n := 0
		for at := Base - 3000; at < End(c)+3000; at++ {
			super, grain, ok := Place(c, at)
			if at < 65536 || at%16 != 0 || n == 64*c.Supers {
				if super != 0 || grain != 0 || ok {
					t.Fatalf("%v: Place(%d): %d, %d, %v", c, at, super, grain, ok)
				}
				continue
			}
			if super != n/64 || grain != n%64 || !ok {
				t.Fatalf("%v: Place(%d): %d, %d, %v, want the grain %d of all", c, at, super, grain, ok, n)
			}
			n++
		}
		if n != 64*c.Supers {
			t.Errorf("%v: %d grains", c, n)
		}
	}
}

// P5.1, P5.3: numbers far from all addresses are none.
func TestAddressesThatThereArent(t *testing.T) {
	for _, c := range systems(t) {
		for _, at := range wild {
			refuse(t, c, at)
		}
		refuse(t, c, 0)
		refuse(t, c, Base-16)
		refuse(t, c, End(c))
	}
}

// P5.2: the chapter's example, and all edges of three classes.
func TestClassByHand(t *testing.T) {
	c := system(2, 16, 64, 96)
	for _, s := range []struct {
		size, class int
		ok          bool
	}{
		{-1, 0, false}, {0, 0, false},
		{1, 0, true}, {15, 0, true}, {16, 0, true},
		{17, 1, true}, {63, 1, true}, {64, 1, true},
		{65, 2, true}, {95, 2, true}, {96, 2, true},
		{97, 0, false}, {1024, 0, false}, {2048, 0, false}, {2049, 0, false},
	} {
		if class, ok := Class(c, s.size); class != s.class || ok != s.ok {
			t.Errorf("Class(%d): %d, %v, want %d, %v", s.size, class, ok, s.class, s.ok)
		}
	}
}

// P5.2: a class is great enough, the one ahead of it isn't; without one, all are too small.
func TestClassOfAllSizes(t *testing.T) {
	for _, c := range systems(t) {
		for size := 1; size <= 600; size++ {
			class, ok := Class(c, size)
			if !ok {
				if class != 0 || slices.Max(c.Classes) >= size {
					t.Errorf("%v: Class(%d): %d, false", c, size, class)
				}
				continue
			}
			if c.Classes[class] < size || class > 0 && c.Classes[class-1] >= size {
				t.Errorf("%v: Class(%d): %d", c, size, class)
			}
		}
	}
}

// P5.2: reckoned by hand.
func TestRunByHand(t *testing.T) {
	c := system(3, 16, 64, 96)
	for _, s := range []struct{ size, run int }{
		{-1, 0}, {0, 0}, {1, 0}, {95, 0}, {96, 0},
		{97, 1}, {1023, 1}, {1024, 1},
		{1025, 2}, {2047, 2}, {2048, 2},
		{2049, 3}, {3072, 3},
		{3073, 0}, {4096, 0},
	} {
		if got := Run(c, s.size); got != s.run {
			t.Errorf("Run(%d): %d, want %d", s.size, got, s.run)
		}
	}
}

// P5.2: a run is great enough, and one superblock less isn't; sizes that have a class, or are above Most, have none.
func TestRunOfAllSizes(t *testing.T) {
	for _, c := range systems(t) {
		for size := -3; size <= Most(c)+3000; size++ {
			want := 0
			if size > slices.Max(c.Classes) && size <= 1024*c.Supers {
				for 1024*want < size {
					want++
				}
			}
			if got := Run(c, size); got != want {
				t.Fatalf("%v: Run(%d): %d, want %d", c, size, got, want)
			}
		}
	}
}

// P5.2: sizes below 1, and very great ones.
func TestSizesThatCantBe(t *testing.T) {
	for _, c := range systems(t) {
		for _, size := range wild {
			if class, ok := Class(c, size); class != 0 || ok {
				t.Errorf("%v: Class(%d): %d, %v", c, size, class, ok)
			}
			if got := Run(c, size); got != 0 {
				t.Errorf("%v: Run(%d): %d", c, size, got)
			}
		}
	}
}

// P5.3: of every size that a class may have.
func TestCapAndAll(t *testing.T) {
	for size := conf.Grain; size <= conf.Super/2; size += conf.Grain {
		c := system(1, size)
		want := 0
		for (want+1)*size <= 1024 {
			want++
		}
		if got := Cap(c, 0); got != want {
			t.Errorf("Cap of a class of %d: %d, want %d", size, got, want)
		}
		if got := All(c, 0); got != mask.Low(want) || got.Count() != want {
			t.Errorf("All of a class of %d: %x, want %d of them", size, got, want)
		}
	}
	c := system(2, 16, 64, 96, 512)
	for class, want := range []int{64, 16, 10, 2} {
		if got := Cap(c, class); got != want {
			t.Errorf("Cap(%d): %d, want %d", class, got, want)
		}
	}
	if All(c, 0) != ^mask.Mask(0) || All(c, 3) != 3 {
		t.Errorf("All: %x, %x", All(c, 0), All(c, 3))
	}
}

// P5.3: classes that there aren't have no blocks.
func TestClassesThatThereArent(t *testing.T) {
	for _, c := range systems(t) {
		for _, class := range append(slices.Clone(wild), len(c.Classes), len(c.Classes)+1, 16, 64, 1024) {
			if Cap(c, class) != 0 || All(c, class) != 0 {
				t.Errorf("%v: Cap(%d): %d, All: %x", c, class, Cap(c, class), All(c, class))
			}
			if got := Address(c, class, api.Block{}); got != 0 {
				t.Errorf("%v: Address of a block of the class %d: %d", c, class, got)
			}
			if b, ok := Block(c, class, Base); b != (api.Block{}) || ok {
				t.Errorf("%v: Block(%d, Base): %v, %v", c, class, b, ok)
			}
		}
	}
}

// P5.3: the chapter's example, and others that are reckoned by hand.
func TestAddressByHand(t *testing.T) {
	c := system(2, 16, 64, 96)
	for _, a := range []struct {
		class int
		b     api.Block
		at    int
	}{
		{0, api.Block{}, 65536},
		{1, api.Block{}, 65536},
		{0, api.Block{Super: 0, Index: 63}, 66544},
		{1, api.Block{Super: 1, Index: 2}, 66688},
		{1, api.Block{Super: 1, Index: 15}, 67520},
		{2, api.Block{Super: 0, Index: 9}, 66400},
		{2, api.Block{Super: 1, Index: 0}, 66560},
		{2, api.Block{Super: 1, Index: 9}, 67424},
	} {
		if got := Address(c, a.class, a.b); got != a.at {
			t.Errorf("Address(%d, %v): %d, want %d", a.class, a.b, got, a.at)
		}
		if got, ok := Block(c, a.class, a.at); got != a.b || !ok {
			t.Errorf("Block(%d, %d): %v, %v, want %v", a.class, a.at, got, ok, a.b)
		}
	}
	// 960 is 10 times 96, but the rest behind that is too small for a block; 48 is amid one, 65544 amid a grain.
	for _, at := range []int{65536 + 960, 65536 + 992, 66560 + 960, 65536 + 48, 65544, 65535, 67584} {
		if b, ok := Block(c, 2, at); b != (api.Block{}) || ok {
			t.Errorf("Block(2, %d): %v, %v", at, b, ok)
		}
	}
}

// P5.3: blocks that there aren't have no address.
func TestBlocksThatThereArent(t *testing.T) {
	for _, c := range systems(t) {
		for class := range c.Classes {
			for _, n := range append(slices.Clone(wild), -1, c.Supers, c.Supers+1, 64) {
				if got := Address(c, class, api.Block{Super: n}); got != 0 {
					t.Errorf("%v: Address of the superblock %d: %d", c, n, got)
				}
			}
			for _, n := range append(slices.Clone(wild), -1, Cap(c, class), Cap(c, class)+1, 64) {
				for _, super := range []int{0, c.Supers - 1} {
					if got := Address(c, class, api.Block{Super: super, Index: n}); got != 0 {
						t.Errorf("%v: Address of the block %d of the class %d: %d", c, n, class, got)
					}
				}
			}
		}
	}
}

// P5.3: blocks of a class lie apart and within their superblock, and each address is either one's, or none's.
func TestBlocksOfAllAddresses(t *testing.T) {
	for _, c := range systems(t) {
		for class, size := range c.Classes {
			begins := map[int]api.Block{}
			for super := range c.Supers {
				for index := range All(c, class).Count() {
					b := api.Block{Super: super, Index: index}
					begins[65536+1024*super+index*size] = b
					if (index+1)*size > 1024 {
						t.Fatalf("%v: %v of the class %d isn't within its superblock", c, b, class)
					}
				}
			}
			for at := Base - 1100; at < End(c)+1100; at++ {
				want, is := begins[at]
				if got, ok := Block(c, class, at); got != want || ok != is {
					t.Fatalf("%v: Block(%d, %d): %v, %v, want %v, %v", c, class, at, got, ok, want, is)
				}
				if is && Address(c, class, want) != at {
					t.Fatalf("%v: Address(%d, %v): %d, want %d", c, class, want, Address(c, class, want), at)
				}
			}
		}
	}
}

// P2: what is handed in stays as it is, with the room behind it.
func TestClassesStayAsTheyAre(t *testing.T) {
	room := []int{16, 64, 96, 1, 2}
	c := system(2, room[:3]...)
	callAll(c, 1, 66688, 97)
	callAll(c, 7, -5, -5)
	if !slices.Equal(room, []int{16, 64, 96, 1, 2}) {
		t.Errorf("the classes are %d", room)
	}
}

// callAll calls all that there is.
func callAll(c api.Config, class, at, size int) {
	Most(c)
	End(c)
	Class(c, size)
	Run(c, size)
	Cap(c, class)
	All(c, class)
	Address(c, class, api.Block{Super: at, Index: size})
	Address(c, class, api.Block{Super: size, Index: at})
	Place(c, at)
	Block(c, class, at)
}

// P1: of Configs that may not be nothing is promised, but that calls end, and none panics.
func TestConfigsThatMayNotBe(t *testing.T) {
	numbers := append(slices.Clone(wild), 0, 1, 2, 7, 24, 64, 1024, 1025, Base, Base+16, Base+1024)
	for _, supers := range numbers {
		for _, classes := range [][]int{nil, {}, {0}, {-16, 0, 16}, {1, 24, 1023}, {1024, 1025}, {math.MinInt, math.MaxInt}, {math.MaxInt, 16}, make([]int, 100)} {
			c := system(supers, classes...)
			for _, class := range []int{math.MinInt, -1, 0, 1, 2, 99, math.MaxInt} {
				for _, n := range numbers {
					callAll(c, class, n, 1)
					callAll(c, class, Base, n)
				}
			}
		}
	}
	callAll(api.Config{}, 0, 0, 0)
}
