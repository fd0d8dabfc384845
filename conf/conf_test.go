package conf

import (
	"math"
	"slices"
	"testing"

	"chandlery/api"
)

// plain: a Config that may be, far from all edges.
func plain() api.Config {
	return api.Config{Workers: 2, Supers: 1, Batch: 4, Tries: 0, Classes: []int{16, 64}}
}

// P4.1: the limits are as they are written down.
func TestLimits(t *testing.T) {
	got := []int{MaxWorkers, MaxSupers, MaxBatch, MaxTries, MaxClasses, Super, Grain, Grains}
	if want := []int{64, 64, 64, 8, 16, 1024, 16, 64}; !slices.Equal(got, want) {
		t.Errorf("limits: %d, want %d", got, want)
	}
}

// P4.1: each number by itself, at its edges, beyond them, and far from them.
func TestCheckNumbers(t *testing.T) {
	for _, c := range []struct {
		name        string
		least, most int
		put         func(c *api.Config, n int)
	}{
		{"Workers", 1, 64, func(c *api.Config, n int) { c.Workers = n }},
		{"Supers", 1, 64, func(c *api.Config, n int) { c.Supers = n }},
		{"Batch", 1, 64, func(c *api.Config, n int) { c.Batch = n }},
		{"Tries", 0, 8, func(c *api.Config, n int) { c.Tries = n }},
	} {
		try := func(n int) {
			d := plain()
			c.put(&d, n)
			want := api.ErrConf
			if n >= c.least && n <= c.most {
				want = api.OK
			}
			if got := Check(d); got != want {
				t.Errorf("Check, %s %d: %d, want %d", c.name, n, got, want)
			}
		}
		for n := -70; n <= 140; n++ {
			try(n)
		}
		for _, n := range []int{math.MinInt, math.MinInt + 1, -1 << 40, -1 << 32, 1 << 32, 1<<32 + 1, 1 << 40, 1<<62 + 1, math.MaxInt - 1, math.MaxInt} {
			try(n)
		}
	}
}

// P4.1: the least and the greatest of all at once.
func TestCheckCorners(t *testing.T) {
	all := []int{}
	for i := range MaxClasses {
		all = append(all, 512-16*(MaxClasses-1-i))
	}
	for _, c := range []api.Config{
		{Workers: 1, Supers: 1, Batch: 1, Tries: 0, Classes: []int{16}},
		{Workers: 1, Supers: 1, Batch: 1, Tries: 0, Classes: []int{512}},
		{Workers: 64, Supers: 64, Batch: 64, Tries: 8, Classes: all},
	} {
		if got := Check(c); got != api.OK {
			t.Errorf("Check(%v): %d", c, got)
		}
	}
	if got := Check(api.Config{}); got != api.ErrConf {
		t.Errorf("Check of the zero Config: %d", got)
	}
}

// P4.1: one class alone is a multiple of 16 from 16 to 512.
func TestCheckOneClass(t *testing.T) {
	try := func(size int) {
		c := plain()
		c.Classes = []int{size}
		want := api.ErrConf
		if size >= 16 && size <= 512 && size%16 == 0 {
			want = api.OK
		}
		if got := Check(c); got != want {
			t.Errorf("Check, a class of %d: %d, want %d", size, got, want)
		}
	}
	for size := -1100; size <= 1100; size++ {
		try(size)
	}
	for _, size := range []int{math.MinInt, math.MinInt + 16, -1 << 40, 1 << 32, 1<<32 + 16, 1 << 40, math.MaxInt - 15, math.MaxInt} {
		try(size)
	}
}

// P4.1: classes rise, no two alike, and each of them is looked at, the last one, too.
func TestCheckClasses(t *testing.T) {
	for _, c := range []struct {
		classes []int
		want    api.Errno
	}{
		{nil, api.ErrConf},
		{[]int{}, api.ErrConf},
		{[]int{16, 32}, api.OK},
		{[]int{16, 512}, api.OK},
		{[]int{496, 512}, api.OK},
		{[]int{16, 32, 48, 64, 96, 128, 192, 256, 384, 512}, api.OK},
		{[]int{16, 16}, api.ErrConf},
		{[]int{512, 512}, api.ErrConf},
		{[]int{32, 16}, api.ErrConf},
		{[]int{512, 16}, api.ErrConf},
		{[]int{16, 64, 32}, api.ErrConf},
		{[]int{16, 64, 64}, api.ErrConf},
		{[]int{16, 64, 16}, api.ErrConf},
		{[]int{32, 16, 64}, api.ErrConf},
		{[]int{16, 64, 48, 512}, api.ErrConf},
		{[]int{0, 16}, api.ErrConf},
		{[]int{-16, 16}, api.ErrConf},
		{[]int{-32, -16}, api.ErrConf},
		{[]int{16, 528}, api.ErrConf},
		{[]int{512, 528}, api.ErrConf},
		{[]int{16, 1024}, api.ErrConf},
		{[]int{8, 16}, api.ErrConf},
		{[]int{16, 24}, api.ErrConf},
		{[]int{16, 24, 32}, api.ErrConf},
		{[]int{16, 33}, api.ErrConf},
		{[]int{16, math.MaxInt}, api.ErrConf},
		{[]int{16, math.MinInt}, api.ErrConf},
		{[]int{math.MinInt, 16}, api.ErrConf},
		{[]int{math.MaxInt, 16}, api.ErrConf},
	} {
		d := plain()
		d.Classes = c.classes
		if got := Check(d); got != c.want {
			t.Errorf("Check, the classes %d: %d, want %d", c.classes, got, c.want)
		}
	}
}

// P4.1: from 1 to 16 classes.
func TestCheckHowManyClasses(t *testing.T) {
	classes := []int{}
	for n := 1; n <= 32; n++ {
		classes = append(classes, 16*n)
		c := plain()
		c.Classes = classes
		want := api.OK
		if n > 16 {
			want = api.ErrConf
		}
		if got := Check(c); got != want {
			t.Errorf("Check, %d classes: %d, want %d", n, got, want)
		}
	}
	c := plain()
	c.Classes = make([]int, 1<<20)
	if got := Check(c); got != api.ErrConf {
		t.Errorf("Check, very many classes: %d", got)
	}
}

// P4.1, P2: a Config that is wrong in many ways is so by one error, and Check leaves it as it is.
func TestCheckLeavesItsArgument(t *testing.T) {
	room := []int{64, 16, 8, 1, 2, 3}
	c := api.Config{Workers: -1, Supers: 99, Batch: 0, Tries: -7, Classes: room[:3]}
	if got := Check(c); got != api.ErrConf {
		t.Errorf("Check: %d", got)
	}
	if !slices.Equal(room, []int{64, 16, 8, 1, 2, 3}) {
		t.Errorf("Check changed the classes: %d", room)
	}
}

// P4.1: Copy takes Configs of any kind over as they are.
func TestCopy(t *testing.T) {
	for _, c := range []api.Config{
		{},
		plain(),
		{Workers: 64, Supers: 63, Batch: 62, Tries: 8, Classes: []int{512}},
		{Workers: -1, Supers: math.MinInt, Batch: math.MaxInt, Tries: 9, Classes: []int{16, 16, 3, -5, math.MaxInt}},
		{Classes: make([]int, 1000)},
	} {
		d := Copy(c)
		if d.Workers != c.Workers || d.Supers != c.Supers || d.Batch != c.Batch || d.Tries != c.Tries || !slices.Equal(d.Classes, c.Classes) {
			t.Errorf("Copy(%v): %v", c, d)
		}
	}
}

// P4.1, P2: the classes of a copy are its own, with the room behind them.
func TestCopyIsNewMemory(t *testing.T) {
	room := []int{16, 64, 1, 2}
	c := plain()
	c.Classes = room[:2]
	d, e := Copy(c), Copy(c)
	d.Classes[0] = 32
	d.Classes = append(d.Classes, 5, 6)
	if !slices.Equal(room, []int{16, 64, 1, 2}) || !slices.Equal(e.Classes, []int{16, 64}) {
		t.Errorf("a copy shares its classes: %d, %d", room, e.Classes)
	}
	room[1] = 80
	if e.Classes[1] != 64 {
		t.Errorf("a copy kept its argument: %d", e.Classes)
	}
}

// P4.2: the chapter's example.
func TestBoundsOfTheExample(t *testing.T) {
	c := plain()
	if State(c) != 2 || Record(2, 2) != 8 || Attempt(2, 2) != 30 || Call(2, 2, 0) != 66 || Bound(c) != 68 {
		t.Errorf("%d, %d, %d, %d, %d", State(c), Record(2, 2), Attempt(2, 2), Call(2, 2, 0), Bound(c))
	}
}

// P4.2: reckoned by hand, from nothing up to 2^20.
func TestBounds(t *testing.T) {
	const top = 1 << 20
	for _, c := range []struct{ words, workers, tries, record, attempt, call int }{
		{0, 0, 0, 0, 6, 18},
		{1, 0, 0, 1, 8, 22},
		{0, 1, 0, 3, 16, 38},
		{0, 0, 1, 0, 6, 24},
		{1, 1, 1, 4, 18, 60},
		{2, 2, 8, 8, 30, 306},
		{128, 64, 8, 320, 902, 9026},
		{top, 0, 0, 1048576, 2097158, 4194322},
		{0, top, 0, 3145728, 10485766, 20971538},
		{top, top, top, 4194304, 12582918, 13194170990610},
	} {
		if got := Record(c.words, c.workers); got != c.record {
			t.Errorf("Record(%d, %d): %d, want %d", c.words, c.workers, got, c.record)
		}
		if got := Attempt(c.words, c.workers); got != c.attempt {
			t.Errorf("Attempt(%d, %d): %d, want %d", c.words, c.workers, got, c.attempt)
		}
		if got := Call(c.words, c.workers, c.tries); got != c.call {
			t.Errorf("Call(%d, %d, %d): %d, want %d", c.words, c.workers, c.tries, got, c.call)
		}
	}
}

// P4.2: State and Bound of Configs that may be, up to the greatest one.
func TestBoundsOfConfigs(t *testing.T) {
	for _, c := range []struct{ workers, supers, tries, state, bound int }{
		{1, 1, 0, 2, 48},
		{1, 1, 1, 2, 68},
		{2, 1, 0, 2, 68},
		{1, 2, 0, 4, 56},
		{3, 5, 2, 10, 232},
		{64, 64, 8, 128, 9028},
	} {
		d := api.Config{Workers: c.workers, Supers: c.supers, Batch: 7, Tries: c.tries, Classes: []int{16, 512}}
		if got := State(d); got != c.state {
			t.Errorf("State(%v): %d, want %d", d, got, c.state)
		}
		if got := Bound(d); got != c.bound {
			t.Errorf("Bound(%v): %d, want %d", d, got, c.bound)
		}
	}
}

// P4.2: neither Batch nor Classes matter.
func TestBoundOfBatchAndClasses(t *testing.T) {
	c := plain()
	for batch := 1; batch <= 64; batch++ {
		c.Batch = batch
		c.Classes = append(c.Classes, 0)
		if State(c) != 2 || Bound(c) != 68 {
			t.Fatalf("Batch %d: %d, %d", batch, State(c), Bound(c))
		}
	}
}

// P1: of numbers of which nothing is promised, calls end, and none panics.
func TestBoundsOfAnyNumbers(t *testing.T) {
	wild := []int{math.MinInt, math.MinInt + 1, -1 << 40, -1, 0, 1, 1 << 40, math.MaxInt - 1, math.MaxInt}
	for _, a := range wild {
		for _, b := range wild {
			Record(a, b)
			Attempt(a, b)
			for _, c := range wild {
				Call(a, b, c)
				d := api.Config{Workers: a, Supers: b, Batch: c, Tries: c, Classes: []int{a, b, c}}
				State(d)
				Bound(d)
				if Check(d) != api.ErrConf {
					t.Errorf("Check(%v): OK", d)
				}
			}
		}
	}
}
