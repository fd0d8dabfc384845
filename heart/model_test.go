package heart

import (
	"slices"
	"testing"

	"chandlery/api"
	"chandlery/mask"
)

// model is what a Heart should be, told plainly: a row of superblocks, each with a row of blocks.
type model struct {
	sizes  []int
	batch  int
	supers []place
}

// place is a superblock of a model.
type place struct {
	class int    // -1: of none
	here  []bool // of one of a class: is the block free here?
	run   int
}

func (p place) free() bool { return p.class == -1 && p.run == 0 }

func newModel(c api.Config) *model {
	m := &model{sizes: slices.Clone(c.Classes), batch: c.Batch}
	for range c.Supers {
		m.supers = append(m.supers, place{class: -1})
	}
	return m
}

func (m *model) clone() *model {
	d := &model{sizes: m.sizes, batch: m.batch, supers: slices.Clone(m.supers)}
	for i := range d.supers {
		d.supers[i].here = slices.Clone(d.supers[i].here)
	}
	return d
}

// bitsOf: those of a row, as a word.
func bitsOf(row []bool) uint64 {
	w := uint64(0)
	for i, in := range row {
		if in {
			w += uint64(1) << i
		}
	}
	return w
}

// super: a superblock, as At should tell it.
func (m *model) super(i int) Super {
	p := m.supers[i]
	return Super{Free: p.free(), Class: p.class, Run: p.run, Mask: mask.Mask(bitsOf(p.here))}
}

// apply: what is asked, by its kind, number and blocks; the answer.
func (m *model) apply(kind, n int, b uint64) api.Op {
	switch {
	case kind == Refills && n < len(m.sizes):
		return m.refill(n)
	case kind == Flushes && n < len(m.supers):
		return m.flush(n, b)
	case kind == Takes && n >= 1:
		return m.take(n)
	case kind == Gives && n < len(m.supers):
		return m.give(n)
	}
	return api.Op{}
}

func (m *model) refill(class int) api.Op {
	at := -1
	for i, p := range m.supers {
		if at < 0 && p.class == class && slices.Contains(p.here, true) {
			at = i
		}
	}
	for i := 0; at < 0 && i < len(m.supers); i++ {
		if m.supers[i].free() {
			at = i
			m.supers[i] = place{class: class, here: make([]bool, 1024/m.sizes[class])}
			for k := range m.supers[i].here {
				m.supers[i].here[k] = true
			}
		}
	}
	if at < 0 {
		return api.Op{}
	}
	answer := api.Op{A: uint64(at) + 1}
	left := m.batch
	for k, in := range m.supers[at].here {
		if in && left > 0 {
			left--
			m.supers[at].here[k] = false
			answer.B += uint64(1) << k
		}
	}
	return answer
}

func (m *model) flush(super int, b uint64) api.Op {
	p := m.supers[super]
	if p.class == -1 || b == 0 {
		return api.Op{}
	}
	for k := range 64 {
		if b>>k&1 == 1 && (k >= len(p.here) || p.here[k]) {
			return api.Op{}
		}
	}
	for k := range p.here {
		p.here[k] = p.here[k] || b>>k&1 == 1
	}
	if !slices.Contains(p.here, false) {
		m.supers[super] = place{class: -1}
	}
	return api.Op{A: 1}
}

func (m *model) take(n int) api.Op {
	row := 0
	for i, p := range m.supers {
		if !p.free() {
			row = 0
			continue
		}
		if row++; row == n {
			first := i - n + 1
			for k := first; k <= i; k++ {
				m.supers[k].run = -1
			}
			m.supers[first].run = n
			return api.Op{A: uint64(first) + 1}
		}
	}
	return api.Op{}
}

func (m *model) give(super int) api.Op {
	n := m.supers[super].run
	if n < 1 {
		return api.Op{}
	}
	for k := super; k < super+n; k++ {
		m.supers[k].run = 0
	}
	return api.Op{A: 1}
}

// pair is a Heart with its words, and the model that it is held against.
type pair struct {
	t     *testing.T
	h     Heart
	words []uint64
	m     *model
}

func newPair(t *testing.T, c api.Config) *pair {
	h := New(c)
	return &pair{t: t, h: h, words: make([]uint64, h.Words()), m: newModel(c)}
}

// do: what is asked, of both; what it answers.
func (p *pair) do(op api.Op) api.Op {
	p.t.Helper()
	before := slices.Clone(p.words)
	want := api.Op{}
	if op.A < 1<<40 {
		want = p.m.apply(int(op.A%256), int(op.A>>8), op.B)
	}
	got := p.h.Apply(p.words, op)
	if got != want {
		p.t.Fatalf("Apply of %v: %v, want %v", op, got, want)
	}
	if got == (api.Op{}) && !slices.Equal(before, p.words) {
		p.t.Fatalf("Apply of %v, that was refused: words %v, then %v", op, before, p.words)
	}
	p.look()
	return got
}

// look: all superblocks are as they should be.
func (p *pair) look() {
	p.t.Helper()
	for i := range p.m.supers {
		if got, ok := At(p.words, i); !ok || got != p.m.super(i) {
			p.t.Fatalf("At %d: %v, %v, want %v", i, got, ok, p.m.super(i))
		}
	}
	for _, i := range []int{-1, len(p.m.supers)} {
		if got, ok := At(p.words, i); ok || got != (Super{}) {
			p.t.Fatalf("At %d: %v, %v", i, got, ok)
		}
	}
}

// dice: numbers below n, one after the other, the same ones each time.
func dice(seed uint64) func(n int) int {
	return func(n int) int {
		seed = seed*6364136223846793005 + 1442695040888963407
		return int(seed >> 33 % uint64(n))
	}
}
