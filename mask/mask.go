// Package mask has sets of numbers from 0 to 63, as bits of a word.
package mask

import "math/bits"

// size is how many numbers a set can have.
const size = 64

// Mask is such a set.
type Mask uint64

// can: may a number be in a set? Shifts by others would panic, or lose the bit.
func can(n int) bool { return n >= 0 && n < size }

// Low: the lowest numbers, so many; all, if there are more.
func Low(n int) Mask {
	if n < 0 {
		return 0
	}
	if n > size {
		return ^Mask(0)
	}
	// At 64 the shift leaves 0, and one less comes round to all bits.
	return Mask(1)<<n - 1
}

// Has: is a number in it?
func (m Mask) Has(n int) bool { return can(n) && m>>n&1 == 1 }

// Count: how many there are. First: the least one; 64: there is none.
func (m Mask) Count() int { return bits.OnesCount64(uint64(m)) }

func (m Mask) First() int { return bits.TrailingZeros64(uint64(m)) }

// With, Without: with a number, or without it; numbers that there aren't change nothing.
func (m Mask) With(n int) Mask {
	if !can(n) {
		return m
	}
	return m | 1<<n
}

func (m Mask) Without(n int) Mask {
	if !can(n) {
		return m
	}
	return m &^ (1 << n)
}

// Least: its least numbers, so many; all, if it hasn't more.
func (m Mask) Least(n int) Mask {
	rest := m
	for i := 0; i < n && rest != 0; i++ {
		rest = rest.Without(rest.First())
	}
	return m &^ rest
}

// Run: the first of so many numbers in a row that are all in it; false: there are none such.
func (m Mask) Run(n int) (int, bool) {
	if n < 1 {
		return 0, false
	}
	row := Low(n)
	// The row must not be shifted out at the top: what is left of it there would be too short.
	for at := 0; at <= size-n; at++ {
		if m>>at&row == row {
			return at, true
		}
	}
	return 0, false
}

// List: its numbers, rising.
func (m Mask) List() []int {
	list := make([]int, 0, m.Count())
	for rest := m; rest != 0; rest = rest.Without(rest.First()) {
		list = append(list, rest.First())
	}
	return list
}
