// Package word puts fields of bits into words of 64 bits.
package word

// size is how many bits a word has.
const size = 64

// mark is the bit of every Ref's word: by it the word of the zero Ref isn't 0, which is no Ref's.
const mark = 1 << 63

// Field is some bits of a word: from which one on, and how many.
type Field struct{ At, Bits int }

// Ref is which record of which worker is the one that holds, and the tag by which it is told from others in its place.
type Ref struct{ Worker, Slot, Tag int }

// refFields: where a Ref's Worker, Slot and Tag lie in its word.
var refFields = [3]Field{{At: 0, Bits: 8}, {At: 8, Bits: 8}, {At: 16, Bits: 32}}

// Right: can it be a field?
func (f Field) Right() bool {
	// Bits is held against a difference, as a sum of the two might come round.
	return f.At >= 0 && f.At < size && f.Bits >= 1 && f.Bits <= size-f.At
}

// low: as many of the lowest bits as the field has; it must be one that may be.
func (f Field) low() uint64 { return ^uint64(0) >> (size - f.Bits) }

// Get: the number of a word's field.
func (f Field) Get(w uint64) uint64 {
	if !f.Right() {
		return 0
	}
	return w >> f.At & f.low()
}

// Put: a word with another number in a field; false: it doesn't fit.
func (f Field) Put(w, n uint64) (uint64, bool) {
	if !f.Right() || n > f.low() {
		return w, false
	}
	return w&^(f.low()<<f.At) | n<<f.At, true
}

// Signed: the number of a word's field, whose highest bit counts below nought.
func (f Field) Signed(w uint64) int64 {
	if !f.Right() {
		return 0
	}
	// With the field at the top of the word, a signed shift back down spreads its highest bit.
	top := int64(w << (size - f.Bits - f.At))
	return top >> (size - f.Bits)
}

// Of: a reference's word; 0, if it can't be.
func Of(r Ref) uint64 {
	w := uint64(mark)
	for i, n := range [3]int{r.Worker, r.Slot, r.Tag} {
		// A number below 0 becomes one of 64 bits, which no field of a Ref can hold.
		next, ok := refFields[i].Put(w, uint64(n))
		if !ok {
			return 0
		}
		w = next
	}
	return w
}

// To: the reference of a word; false: it is none's.
func To(w uint64) (Ref, bool) {
	var n [3]int
	for i, f := range refFields {
		n[i] = int(f.Get(w))
	}
	r := Ref{Worker: n[0], Slot: n[1], Tag: n[2]}
	// Only the word that the numbers make up again has the mark, and no bit beside.
	if Of(r) != w {
		return Ref{}, false
	}
	return r, true
}
