package obj

import (
	"math"
	"slices"
	"testing"

	"chandlery/api"
)

// most is the greatest word.
const most = math.MaxUint64

// Both are objects.
var (
	_ Object = Counter{}
	_ Object = Stack{}
)

// wantReplay: Replay answers just these, and leaves just these words.
func wantReplay(t *testing.T, o Object, l, answers []api.Op, words []uint64) {
	t.Helper()
	got, left := Replay(o, l...)
	if !slices.Equal(got, answers) || !slices.Equal(left, words) {
		t.Errorf("Replay(%v, %v): %v, %d, want %v, %d", o, l, got, left, answers, words)
	}
}

// P9.1.
func TestCounter(t *testing.T) {
	if n := (Counter{}).Words(); n != 1 {
		t.Fatalf("Words: %d", n)
	}
	for _, was := range []uint64{0, 1, 5, 1 << 32, 1 << 63, most - 1, most} {
		for _, a := range []uint64{0, 1, 5, 1 << 32, 1 << 63, most - 1, most} {
			for _, b := range []uint64{0, 1, most} {
				words := []uint64{was}
				got := Counter{}.Apply(words, api.Op{A: a, B: b})
				if want := (api.Op{A: was, B: was + a}); got != want || words[0] != was+a {
					t.Errorf("%d, and %d more: %v, then %d", was, a, got, words[0])
				}
			}
		}
	}
	wantReplay(t, Counter{}, []api.Op{{A: 5}, {A: most}, {}, {B: 9}}, []api.Op{{B: 5}, {A: 5, B: 4}, {A: 4, B: 4}, {A: 4, B: 4}}, []uint64{4})
}

// P9.2: Room and one words; Room counts as 0 below 0, and as 1000 above that.
func TestStackWords(t *testing.T) {
	for room, want := range map[int]int{
		0: 1, 1: 2, 2: 3, 999: 1000, 1000: 1001,
		1001: 1001, 1 << 32: 1001, math.MaxInt: 1001,
		-1: 1, -1000: 1, -1 << 32: 1, math.MinInt: 1,
	} {
		if got := (Stack{Room: room}).Words(); got != want {
			t.Errorf("Room %d: %d words, want %d", room, got, want)
		}
	}
}

// P9.2, and the chapter's example.
func TestStack(t *testing.T) {
	wantReplay(t, Stack{Room: 1},
		[]api.Op{{A: 1, B: 7}, {A: 1, B: 8}, {A: 2, B: 9}, {A: 2}},
		[]api.Op{{A: 1}, {}, {A: 1, B: 7}, {}}, []uint64{0, 0})
	wantReplay(t, Stack{Room: 3},
		[]api.Op{{A: 1, B: 7}, {A: 1}, {A: 1, B: most}, {A: 1, B: 1}, {A: 2}, {A: 2}, {A: 1, B: 4}},
		[]api.Op{{A: 1}, {A: 1}, {A: 1}, {}, {A: 1, B: most}, {A: 1}, {A: 1}}, []uint64{2, 7, 4, 0})
	for _, room := range []int{0, -1, math.MinInt} {
		wantReplay(t, Stack{Room: room}, []api.Op{{A: 1, B: 7}, {A: 2}, {A: 1}}, []api.Op{{}, {}, {}}, []uint64{0})
	}
}

// P9.2: what is asked by another A does nothing, whatever is there.
func TestStackAskedOtherwise(t *testing.T) {
	for _, words := range [][]uint64{{0, 0, 0}, {1, 5, 0}, {2, 5, 6}} {
		for _, a := range []uint64{0, 3, 4, 257, 258, 1<<32 + 1, 1<<32 + 2, 1 << 63, 1<<63 + 1, most - 1, most} {
			left := slices.Clone(words)
			if got := (Stack{Room: 2}).Apply(left, api.Op{A: a, B: 9}); got != (api.Op{}) || !slices.Equal(left, words) {
				t.Errorf("%d, asked %d: %v, then %d", words, a, got, left)
			}
		}
	}
}

// P9.2: the greatest Stack is filled, beyond its room, and emptied, beyond its last one.
func TestGreatStack(t *testing.T) {
	for _, room := range []int{1000, 1001, math.MaxInt} {
		s := Stack{Room: room}
		words := make([]uint64, s.Words())
		for i := range uint64(1000) {
			if got := s.Apply(words, api.Op{A: 1, B: i + 7}); got != (api.Op{A: 1}) || words[0] != i+1 || words[i+1] != i+7 {
				t.Fatalf("Room %d: number %d: %v", room, i, got)
			}
		}
		if got := s.Apply(words, api.Op{A: 1, B: 1}); got != (api.Op{}) || words[0] != 1000 || words[1000] != 1006 {
			t.Errorf("Room %d: one too many: %v", room, got)
		}
		for i := uint64(1000); i > 0; i-- {
			if got := s.Apply(words, api.Op{A: 2}); got != (api.Op{A: 1, B: i + 6}) || words[0] != i-1 || words[i] != 0 {
				t.Fatalf("Room %d: number %d goes: %v", room, i, got)
			}
		}
		if got := s.Apply(words, api.Op{A: 2}); got != (api.Op{}) || slices.Max(words) != 0 {
			t.Errorf("Room %d: one more than all: %v", room, got)
		}
	}
}

// P9.2: all rows of up to seven askings do what a plain list does.
func TestStackOfAllShortRows(t *testing.T) {
	for room := range 4 {
		var try func(l, answers []api.Op, has []uint64)
		try = func(l, answers []api.Op, has []uint64) {
			words := append([]uint64{uint64(len(has))}, has...)
			wantReplay(t, Stack{Room: room}, l, answers, append(words, make([]uint64, room-len(has))...))
			if len(l) == 7 || t.Failed() {
				return
			}
			come := api.Op{A: 1, B: uint64(10 + len(l))}
			if len(has) < room {
				try(append(slices.Clone(l), come), append(slices.Clone(answers), api.Op{A: 1}), append(slices.Clone(has), come.B))
			} else {
				try(append(slices.Clone(l), come), append(slices.Clone(answers), api.Op{}), has)
			}
			go1 := api.Op{A: 2, B: 99}
			if n := len(has); n > 0 {
				try(append(slices.Clone(l), go1), append(slices.Clone(answers), api.Op{A: 1, B: has[n-1]}), has[:n-1])
			} else {
				try(append(slices.Clone(l), go1), append(slices.Clone(answers), api.Op{}), has)
			}
		}
		try(nil, nil, nil)
	}
}

// P1: words of other lengths, and such as no Stack has: nothing panics, and no word behind the length is written.
func TestWordsThatArent(t *testing.T) {
	ops := []api.Op{{}, {A: 1, B: 5}, {A: 2}, {A: 3}, {A: most, B: most}}
	for _, op := range ops {
		Counter{}.Apply(nil, op)
		for _, room := range []int{math.MinInt, -1, 0, 1, 2, 1000, math.MaxInt} {
			Stack{Room: room}.Apply(nil, op)
			for n := range 5 {
				for _, first := range []uint64{0, 1, 2, 3, 4, 1000, 1001, 1 << 32, 1 << 63, most} {
					all := []uint64{first, 11, 12, 13, 14, 15}
					Counter{}.Apply(all[:n], op)
					Stack{Room: room}.Apply(all[:n], op)
					if want := []uint64{11, 12, 13, 14, 15}; n > 0 && !slices.Equal(all[n:], want[n-1:]) {
						t.Errorf("Room %d, %d words: the words behind them became %d", room, n, all[n:])
					}
				}
			}
		}
	}
}

// P9.3: each is applied once, in order, to the same words, which are all 0 at first.
type list struct{ seen *[]api.Op }

func (l list) Words() int { return 3 }

func (l list) Apply(words []uint64, op api.Op) api.Op {
	*l.seen = append(*l.seen, op)
	words[0]++
	words[1] += words[0] * op.A
	words[2] = op.B
	return api.Op{A: words[0], B: words[1]}
}

func TestReplay(t *testing.T) {
	var seen []api.Op
	l := []api.Op{{A: 5, B: 1}, {A: 7, B: 2}, {A: 5, B: 1}}
	wantReplay(t, list{&seen}, l, []api.Op{{A: 1, B: 5}, {A: 2, B: 19}, {A: 3, B: 34}}, []uint64{3, 34, 1})
	if !slices.Equal(seen, l) {
		t.Errorf("applied: %v", seen)
	}
	wantReplay(t, list{&seen}, nil, nil, []uint64{0, 0, 0})
	wantReplay(t, Counter{}, nil, nil, []uint64{0})
	wantReplay(t, Stack{Room: 4}, []api.Op{}, nil, make([]uint64, 5))
}

// P2: what is handed in stays, with the room behind it; what is answered is the caller's own.
func TestReplayKeepsNothing(t *testing.T) {
	all := []api.Op{{A: 1, B: 3}, {A: 1, B: 4}, {A: 2, B: 5}, {A: 9, B: 9}}
	before := slices.Clone(all)
	a, w := Replay(Stack{Room: 3}, all[:3]...)
	b, v := Replay(Stack{Room: 3}, all[:3]...)
	if !slices.Equal(all, before) {
		t.Errorf("the list became %v", all)
	}
	for i := range a {
		a[i] = api.Op{A: 77, B: 77}
	}
	w[0], w[1] = 77, 77
	if !slices.Equal(all, before) || !slices.Equal(b, []api.Op{{A: 1}, {A: 1}, {A: 1, B: 4}}) || !slices.Equal(v, []uint64{1, 3, 0, 0}) {
		t.Errorf("an answer is shared: %v, %v, %d", all, b, v)
	}
}

// wild is an object that can't be: it tells any number of words, and panics.
type wild struct{ words int }

func (w wild) Words() int {
	if w.words == 13 {
		panic("words")
	}
	return w.words
}

func (w wild) Apply(words []uint64, op api.Op) api.Op { panic("apply") }

// P1: objects that can't be: the calls end, and nothing panics.
func TestObjectsThatCantBe(t *testing.T) {
	var none *wild
	for _, o := range []Object{nil, none, wild{1}, wild{0}, wild{13}, wild{-1}, wild{math.MinInt}, wild{1 << 40}, wild{math.MaxInt}} {
		Replay(o)
		Replay(o, api.Op{}, api.Op{A: 1, B: 2})
	}
}
