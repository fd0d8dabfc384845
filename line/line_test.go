package line

import (
	"math"
	"slices"
	"testing"

	"chandlery/api"
	"chandlery/pace"
	"chandlery/yard"
)

// wild are numbers far from any step, and from any number of an event.
var wild = []int{math.MinInt, math.MinInt + 1, -1 << 32, -1, 1 << 32, math.MaxInt - 1, math.MaxInt}

// dice: numbers by a rule, the same in every run.
func dice(seed uint64) func(n int) int {
	return func(n int) int {
		seed = seed*6364136223846793005 + 1442695040888963407
		return int(seed >> 33 % uint64(n))
	}
}

// at: an event of a worker, by its steps; all else that it tells is no matter.
func at(worker, begin, point, end int) api.Event {
	return api.Event{Worker: worker, Request: api.Request{Kind: 9, N: -7}, Answer: api.Answer{Code: api.ErrFree, N: 8}, Steps: -3, Begin: begin, Point: point, End: end}
}

// points: events of which only this is told.
func points(l ...int) []api.Event {
	var events []api.Event
	for i, p := range l {
		events = append(events, at(i%3, -i, p, i%2))
	}
	return events
}

// steps: events with all steps from the one to the other.
func steps(least, most int) []api.Event {
	var l []api.Event
	for b := least; b <= most; b++ {
		for p := least; p <= most; p++ {
			for e := least; e <= most; e++ {
				l = append(l, at(0, b, p, e))
			}
		}
	}
	return l
}

// The chapter's example.
func TestExample(t *testing.T) {
	l := []api.Event{at(0, 1, 4, 5), at(1, 2, 3, 3)}
	if o := Order(l); !slices.Equal(o, []int{1, 0}) || !Fits(l, o) || !Right(l) {
		t.Errorf("Order: %v", o)
	}
}

// P21.1: by rising Point, of like ones by rising numbers; those that don't count aren't there.
func TestOrder(t *testing.T) {
	for _, x := range []struct{ l, want []int }{
		{nil, nil},
		{[]int{0}, nil},
		{[]int{-1}, nil},
		{[]int{1}, []int{0}},
		{[]int{0, 0, 0}, nil},
		{[]int{1, 2, 3}, []int{0, 1, 2}},
		{[]int{3, 2, 1}, []int{2, 1, 0}},
		{[]int{2, 2, 2}, []int{0, 1, 2}},
		{[]int{2, 1, 2, 1}, []int{1, 3, 0, 2}},
		{[]int{0, 5, 0, 4, 0}, []int{3, 1}},
		{[]int{math.MinInt, 7, -1, 1, 0, 7}, []int{3, 1, 5}},
		{[]int{math.MaxInt, math.MinInt, math.MaxInt - 1, 1, math.MaxInt}, []int{3, 2, 0, 4}},
	} {
		if o := Order(points(x.l...)); !slices.Equal(o, x.want) {
			t.Errorf("Order of %v: %v, want %v", x.l, o, x.want)
		}
	}
}

// plainOrder: the numbers step by step, each time looked for among all.
func plainOrder(l []api.Event, most int) []int {
	var o []int
	for p := 1; p <= most; p++ {
		for i, e := range l {
			if e.Point == p {
				o = append(o, i)
			}
		}
	}
	return o
}

// P21.1: long lists with many like steps.
func TestOrderOfLongLists(t *testing.T) {
	for seed := range uint64(60) {
		next := dice(seed)
		most := 1 + next(40)
		var l []api.Event
		for range next(400) {
			l = append(l, at(next(5), next(9), next(most+3)-2, next(9)))
		}
		kept := slices.Clone(l)
		if o, want := Order(l), plainOrder(l, most); !slices.Equal(o, want) || !slices.Equal(l, kept) {
			t.Fatalf("Order: %v, want %v", o, want)
		}
	}
}

// P21.2: over, and below the other's beginning; nothing else matters.
func TestAhead(t *testing.T) {
	for _, x := range []struct {
		end, begin int
		want       bool
	}{
		{1, 2, true}, {1, 1, false}, {2, 1, false}, {1, 9, true}, {9, 10, true}, {10, 10, false}, {11, 10, false},
		{0, 1, false}, {0, 9, false}, {-1, 1, false}, {-5, -4, false}, {math.MinInt, math.MaxInt, false}, {0, math.MaxInt, false},
		{1, math.MaxInt, true}, {math.MaxInt - 1, math.MaxInt, true}, {math.MaxInt, math.MaxInt, false},
		{1, 0, false}, {1, -1, false}, {1, math.MinInt, false}, {math.MaxInt, math.MinInt, false},
	} {
		for _, n := range append(slices.Clone(wild), 0, 1, 2) {
			a, b := at(n, n, n, x.end), at(3, x.begin, n, n)
			if got := Ahead(a, b); got != x.want {
				t.Errorf("Ahead of %v, %v: %v", a, b, got)
			}
		}
	}
}

// plainRight: what the chapter says of each event, held against all that are ahead of it in the list.
func plainRight(l []api.Event) bool {
	for i, e := range l {
		if e.Begin < 1 || e.Point < 0 || e.End < 0 {
			return false
		}
		if e.Point > 0 && e.Point < e.Begin {
			return false
		}
		if e.End > 0 && (e.Point == 0 || e.Point > e.End) {
			return false
		}
		for k := i - 1; k >= 0; k-- {
			if l[k].Worker == e.Worker {
				if l[k].End == 0 || l[k].End >= e.Begin {
					return false
				}
				break
			}
		}
	}
	return true
}

// P21.2: one event, by hand.
func TestRightOfOne(t *testing.T) {
	if !Right(nil) || !Right([]api.Event{}) {
		t.Error("Right of none")
	}
	for _, x := range []struct {
		begin, point, end int
		want              bool
	}{
		{1, 0, 0, true}, {1, 1, 0, true}, {1, 1, 1, true}, {1, 1, 2, true}, {1, 2, 2, true}, {1, 2, 3, true}, {5, 5, 5, true},
		{1, math.MaxInt, math.MaxInt, true}, {math.MaxInt, math.MaxInt, math.MaxInt, true}, {math.MaxInt, 0, 0, true},
		{0, 0, 0, false}, {0, 1, 1, false}, {-1, 1, 1, false}, {math.MinInt, 0, 0, false},
		{1, -1, 0, false}, {1, -1, 1, false}, {1, math.MinInt, 0, false},
		{1, 0, -1, false}, {1, 1, -1, false}, {1, 1, math.MinInt, false},
		{2, 1, 0, false}, {2, 1, 3, false}, {3, 2, 2, false},
		{1, 0, 1, false}, {1, 0, 5, false}, {1, 3, 2, false}, {1, 2, 1, false}, {2, 2, 1, false},
	} {
		for _, worker := range append(slices.Clone(wild), 0, 5) {
			if got := Right([]api.Event{at(worker, x.begin, x.point, x.end)}); got != x.want {
				t.Errorf("Right of %v: %v", x, got)
			}
		}
	}
}

// P21.2: two events, of all steps around the edges, of one worker, and of two.
func TestRightOfTwo(t *testing.T) {
	all := steps(-1, 3)
	for _, a := range all {
		for _, b := range all {
			for _, other := range []int{0, 1} {
				b.Worker = other
				l := []api.Event{a, b}
				if got := Right(l); got != plainRight(l) {
					t.Fatalf("Right of %v: %v", l, got)
				}
			}
		}
	}
}

// P21.2: a worker does one thing at a time, whatever others do in between; it is the last one of its that matters.
func TestRightOfMany(t *testing.T) {
	for i, x := range []struct {
		l    []api.Event
		want bool
	}{
		{[]api.Event{at(0, 1, 1, 1), at(0, 2, 2, 2), at(0, 3, 0, 0)}, true},
		{[]api.Event{at(0, 1, 1, 2), at(0, 2, 2, 2)}, false},
		{[]api.Event{at(0, 1, 1, 0), at(0, 2, 2, 2)}, false},
		{[]api.Event{at(0, 1, 0, 0), at(0, 2, 2, 2)}, false},
		{[]api.Event{at(0, 1, 1, 1), at(1, 1, 1, 9), at(0, 2, 2, 2)}, true},
		{[]api.Event{at(0, 1, 1, 5), at(1, 2, 2, 3), at(0, 4, 4, 6)}, false},
		{[]api.Event{at(0, 1, 1, 0), at(1, 2, 2, 3), at(0, 4, 4, 6)}, false},
		{[]api.Event{at(0, 3, 3, 3), at(0, 1, 1, 1)}, false},
		{[]api.Event{at(0, 3, 3, 3), at(1, 1, 1, 1), at(2, 2, 2, 2)}, true},
		{[]api.Event{at(0, 1, 1, 1), at(0, 2, 2, 7), at(0, 5, 5, 5)}, false},
		{[]api.Event{at(-1, 1, 1, 0), at(1, 2, 2, 2), at(math.MinInt, 1, 1, 0), at(math.MaxInt, 1, 1, 0)}, true},
		{[]api.Event{at(-1, 1, 1, 0), at(1, 2, 2, 2), at(-1, 3, 3, 3)}, false},
		{[]api.Event{at(0, 1, 1, 1), at(1, 1, 1, 1), at(2, 1, 2, 1)}, false},
		{[]api.Event{at(0, 1, 2, 1), at(1, 1, 1, 1), at(2, 1, 1, 1)}, false},
	} {
		if got := Right(x.l); got != x.want || got != plainRight(x.l) {
			t.Errorf("%d: Right of %v: %v", i, x.l, got)
		}
	}
}

// P21.2: lists of a few workers, right and nearly so.
func TestRightOfLongLists(t *testing.T) {
	right := 0
	for seed := range uint64(4000) {
		next := dice(seed)
		var l []api.Event
		ends := make([]int, 3)
		for range next(12) {
			worker := next(3)
			begin := ends[worker] + 1 + next(3)
			point := begin + next(3)
			ends[worker] = point + next(3)
			l = append(l, at(worker, begin, point, ends[worker]))
		}
		if len(l) > 0 && next(3) > 0 {
			p := &l[next(len(l))]
			for _, x := range []*int{&p.Begin, &p.Point, &p.End, &p.Worker} {
				if next(3) == 0 {
					*x += next(5) - 2
				}
			}
		}
		kept := slices.Clone(l)
		if got := Right(l); got != plainRight(l) || !slices.Equal(l, kept) {
			t.Fatalf("Right of %v: %v", l, got)
		} else if got {
			right++
		}
	}
	if right < 1000 || right > 3500 {
		t.Errorf("%d are Right", right)
	}
}

// plainFits: what the chapter says, each number held against all others.
func plainFits(l []api.Event, order []int) bool {
	for i, e := range l {
		n := 0
		for _, k := range order {
			if k == i {
				n++
			}
		}
		if n > 1 || n == 0 && e.End > 0 {
			return false
		}
	}
	for i, k := range order {
		if k < 0 || k >= len(l) {
			return false
		}
		for _, before := range order[:i] {
			if l[k].End > 0 && l[k].End < l[before].Begin {
				return false
			}
		}
	}
	return true
}

// rows: all rows of numbers from the one to the other, of at most so many.
func rows(least, most, n int) [][]int {
	all := [][]int{nil}
	for from := 0; n > 0; n-- {
		to := len(all)
		for _, row := range all[from:to] {
			for i := least; i <= most; i++ {
				all = append(all, append(slices.Clone(row), i))
			}
		}
		from = to
	}
	return all
}

// P21.3: by hand.
func TestFits(t *testing.T) {
	l := []api.Event{at(0, 1, 4, 5), at(1, 2, 3, 3), at(1, 6, 0, 0), at(0, 6, 6, 0), at(2, 4, 4, 4)}
	for _, x := range []struct {
		order []int
		want  bool
	}{
		{[]int{1, 0, 4}, true}, {[]int{1, 4, 0}, true}, {[]int{0, 1, 4}, true},
		{[]int{1, 0, 4, 3}, true}, {[]int{1, 4, 0, 3, 2}, true}, {[]int{1, 0, 4, 2}, true}, {[]int{1, 0, 4, 2, 3}, true},
		{[]int{4, 1, 0}, false}, {[]int{4, 0, 1}, false}, {[]int{0, 4, 1}, false},
		{[]int{1, 0}, false}, {[]int{1, 4}, false}, {[]int{0, 4}, false}, {nil, false},
		{[]int{3, 1, 0, 4}, false}, {[]int{1, 3, 0, 4}, false}, {[]int{1, 0, 3, 4}, false}, {[]int{2, 1, 0, 4}, false},
		{[]int{1, 0, 4, 4}, false}, {[]int{1, 1, 0, 4}, false}, {[]int{1, 0, 4, 3, 3}, false}, {[]int{1, 0, 1}, false},
		{[]int{1, 0, 4, 5}, false}, {[]int{-1, 1, 0, 4}, false}, {[]int{1, 0, 4, math.MaxInt}, false}, {[]int{1, 0, 4, math.MinInt}, false},
	} {
		if got := Fits(l, x.order); got != x.want || got != plainFits(l, x.order) {
			t.Errorf("Fits %v: %v", x.order, got)
		}
	}
	if !Fits(nil, nil) || Fits(nil, []int{0}) || Fits(nil, []int{-1}) {
		t.Error("Fits of none")
	}
}

// P21.3: all rows of numbers of few events, also of such as can't be.
func TestFitsOfAllRows(t *testing.T) {
	all := rows(-1, 3, 4)
	fit := 0
	for seed := range uint64(600) {
		next := dice(seed)
		var l []api.Event
		for range next(4) {
			l = append(l, at(next(2), next(6)-1, next(6), max(next(8)-3, -1)))
		}
		for _, order := range all {
			got := Fits(l, order)
			if got != plainFits(l, order) {
				t.Fatalf("%v: Fits %v: %v", l, order, got)
			}
			if got {
				fit++
			}
		}
	}
	if fit < 500 {
		t.Errorf("%d fit", fit)
	}
}

// P21.3: whoever of those ahead in the row began last, wherever it stands; one whose End is far, or not there, is ahead of none.
func TestFitsFarApart(t *testing.T) {
	l := []api.Event{at(0, 9, 9, 9), at(1, 2, 2, 12), at(2, 3, 3, 8), at(3, math.MaxInt, 0, 0), at(4, 1, 1, 1), at(5, math.MinInt, 0, math.MinInt)}
	for _, x := range []struct {
		order []int
		want  bool
	}{
		{[]int{4, 2, 0, 1}, true}, {[]int{4, 2, 1, 0}, true}, {[]int{4, 0, 1, 2}, false}, {[]int{4, 1, 0, 2}, false},
		{[]int{2, 1, 0, 4}, false}, {[]int{5, 4, 2, 0, 1, 3}, true}, {[]int{4, 2, 0, 1, 3, 5}, true}, {[]int{4, 2, 0, 3, 1}, false}, {[]int{3, 4, 2, 0, 1}, false},
	} {
		if got := Fits(l, x.order); got != x.want {
			t.Errorf("Fits %v: %v", x.order, got)
		}
	}
}

// P21.1 to P21.3: the Events of systems, at any time: they are Right, and Order of them Fits.
func TestOfYards(t *testing.T) {
	open, late := 0, 0
	for seed := range uint64(60) {
		next := dice(seed)
		y, _ := yard.New(api.Config{Workers: 1 + next(5), Supers: 1 + next(2), Batch: 1 + next(2), Tries: next(3), Classes: []int{256, 512}})
		workers := y.Config().Workers
		long := 1 + next(60)
		for range 60 {
			worker := next(workers)
			y.Ask(worker, api.Request{Kind: 1 + next(8)/7, N: []int{100, 512, 1024, 65536, 65792, 66048}[next(6)]})
			for range 1 + next(long) {
				y.Pick(worker)
			}
			l := y.Events()
			o := Order(l)
			if !Right(l) || !Fits(l, o) || !slices.Equal(o, plainOrder(l, y.Clock())) {
				t.Fatalf("%v: Order %v", l, o)
			}
			for _, i := range o {
				if l[i].End == 0 {
					open++
				}
			}
			if !slices.IsSorted(o) {
				late++
			}
		}
		pace.Finish(y)
		if l := y.Events(); !Right(l) || !Fits(l, Order(l)) || len(Order(l)) != len(l) {
			t.Fatalf("behind all: %v", l)
		}
	}
	if open < 20 || late < 20 {
		t.Errorf("%d count ahead of their end, %d times others began sooner", open, late)
	}
}

// P2: what is handed in, with its spare room, is neither changed nor kept; what is answered is new.
func TestListsOfTheirOwn(t *testing.T) {
	room := []api.Event{at(0, 1, 4, 5), at(1, 2, 3, 3), at(7, 7, 7, 7)}
	l, kept := room[:2], slices.Clone(room)
	one, other := Order(l), Order(l)
	row := append(slices.Clone(one), 9)[:2]
	if !Right(l) || !Fits(l, row) || !slices.Equal(room, kept) || !slices.Equal(row[:3], []int{1, 0, 9}) {
		t.Errorf("%v, %v", room, row[:3])
	}
	one[0] = 8
	_ = append(one[:1], 8)
	if !slices.Equal(other, []int{1, 0}) || !slices.Equal(Order(l), other) {
		t.Errorf("Order: %v", other)
	}
	l[0].Point = 1
	if !slices.Equal(other, []int{1, 0}) || !slices.Equal(Order(l), []int{0, 1}) {
		t.Errorf("Order: %v, behind a change %v", other, Order(l))
	}
}

// P1: very many events, of very many workers, falling and alike, are put in order and checked without looking through all for each.
func TestMany(t *testing.T) {
	const many = 200000
	var falling, rising []api.Event
	for i := range many {
		falling = append(falling, at(i, 1, 1+(many-i)/3, many))
		rising = append(rising, at(i%7, i+1, i+1, i+1))
	}
	for i, l := range [][]api.Event{falling, rising} {
		o := Order(l)
		if len(o) != many || !Right(l) || !Fits(l, o) {
			t.Errorf("%d: Order, Right or Fits", i)
		}
		for k := 1; k < len(o); k++ {
			if a, b := l[o[k-1]].Point, l[o[k]].Point; a > b || a == b && o[k-1] > o[k] {
				t.Fatalf("%d: %d stands behind %d", i, o[k], o[k-1])
			}
		}
	}
	o := Order(rising)
	slices.Reverse(o)
	if Fits(rising, o) || Right(slices.Repeat(rising, 2)) {
		t.Error("what can't be")
	}
}

// P1: any numbers: calls end, and none panics.
func TestRawNumbers(t *testing.T) {
	numbers := append(slices.Clone(wild), 0, 1)
	for _, b := range numbers {
		for _, p := range numbers {
			for _, e := range numbers {
				l := []api.Event{at(b, b, p, e), at(b, e, b, p), at(p, p, e, b)}
				for _, order := range [][]int{nil, {b}, {0, 1, 2}, {2, 1, 0}, {p, 0, e}, Order(l)} {
					if got := Fits(l, order); got != plainFits(l, order) {
						t.Fatalf("%v: Fits %v: %v", l, order, got)
					}
				}
				if got := Right(l); got != plainRight(l) {
					t.Fatalf("Right of %v: %v", l, got)
				}
			}
		}
	}
}
