package mul

import "math/bits"

// Inside, parts are rows of words of 64 bits: a product of words costs as much as one of limbs, and there are a quarter as many.

// pack is limbs as words.
func pack(a []uint32) []uint64 {
	w := make([]uint64, (len(a)+1)/2)
	for i := range len(a) / 2 {
		w[i] = uint64(a[2*i]) | uint64(a[2*i+1])<<32
	}
	if len(a)%2 == 1 {
		w[len(w)-1] = uint64(a[len(a)-1])
	}
	return w
}

// unpack is words as a natural.
func unpack(w []uint64) []uint32 {
	a := make([]uint32, 2*len(w))
	for i, x := range w {
		a[2*i], a[2*i+1] = uint32(x), uint32(x>>32)
	}
	return trim(a)
}

// trim takes the noughts at the end away; of limbs as of words.
func trim[T uint32 | uint64](l []T) []T {
	n := len(l)
	for n > 0 && l[n-1] == 0 {
		n--
	}
	return l[:n:n]
}

// addTo adds a to z, which has at least as many words; what is carried out of z is told.
func addTo(z, a []uint64) uint64 {
	carry := uint64(0)
	low := z[:len(a)]
	for i, x := range a {
		low[i], carry = bits.Add64(low[i], x, carry)
	}
	for i := len(a); carry != 0 && i < len(z); i++ {
		z[i], carry = bits.Add64(z[i], 0, carry)
	}
	return carry
}

// takeFrom takes a away from z, which has at least as many words, and is not less.
func takeFrom(z, a []uint64) {
	borrow := uint64(0)
	low := z[:len(a)]
	for i, x := range a {
		low[i], borrow = bits.Sub64(low[i], x, borrow)
	}
	for i := len(a); borrow != 0 && i < len(z); i++ {
		z[i], borrow = bits.Sub64(z[i], 0, borrow)
	}
}

// sum is a and b, with a word more than the longer one has.
func sum(a, b []uint64) []uint64 {
	z := make([]uint64, max(len(a), len(b))+1)
	copy(z, a)
	addTo(z, b)
	return z
}

// less tells whether a, which has as many words as b, is below it.
func less(a, b []uint64) bool {
	for i := len(a) - 1; i >= 0; i-- {
		if a[i] != b[i] {
			return a[i] < b[i]
		}
	}
	return false
}

// apart is a less b without its sign, and whether that is below 0; both have as many words.
func apart(a, b []uint64) ([]uint64, bool) {
	below := less(a, b)
	if below {
		a, b = b, a
	}
	z := append([]uint64(nil), a...)
	takeFrom(z, b)
	return z, below
}

// halve puts half of a in its place; it is even.
func halve(a []uint64) {
	for i := range a {
		a[i] >>= 1
		if i+1 < len(a) {
			a[i] |= a[i+1] << 63
		}
	}
}

// third puts a third of a in its place; it is a multiple of 3.
func third(a []uint64) {
	rest := uint64(0)
	for i := len(a) - 1; i >= 0; i-- {
		a[i], rest = bits.Div64(rest, a[i], 3)
	}
}

// double puts twice a in its place; what is above its words is lost.
func double(a []uint64) {
	for i := len(a) - 1; i >= 0; i-- {
		a[i] <<= 1
		if i > 0 {
			a[i] |= a[i-1] >> 63
		}
	}
}

// row adds a times y to z, which has a word more than a.
func row(z, a []uint64, y uint64) {
	carry := uint64(0)
	low := z[:len(a)]
	for i, x := range a {
		hi, lo := bits.Mul64(x, y)
		s, c := bits.Add64(lo, low[i], 0)
		hi += c
		s, c = bits.Add64(s, carry, 0)
		low[i], carry = s, hi+c
	}
	z[len(a)] = carry
}

// rows is the product of a and b, word by word.
func rows(a, b []uint64) []uint64 {
	z := make([]uint64, len(a)+len(b))
	for i, y := range b {
		row(z[i:i+len(a)+1], a, y)
	}
	return z
}
