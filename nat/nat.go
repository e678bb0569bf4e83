// Package nat is layer 1: natural numbers as rows of limbs, the lowest first.
package nat

import (
	"cmp"
	"iter"
	"math/bits"
	"slices"
)

// maxLimbs is api.MaxLimbs; this layer stands on nothing, so it names the limit itself.
const maxLimbs = 65536

// Right tells whether a is a natural: not too long, and without a nought at its end.
func Right(a []uint32) bool {
	return len(a) <= maxLimbs && (len(a) == 0 || a[len(a)-1] != 0)
}

// Make is the natural of limbs: l without the noughts at its end.
func Make(l []uint32) []uint32 {
	n := len(l)
	for n > 0 && l[n-1] == 0 {
		n--
	}
	// The capacity is cut, so that nobody who appends to the answer writes into l.
	return l[:n:n]
}

// Of is n as a natural.
func Of(n uint64) []uint32 {
	return Make([]uint32{uint32(n), uint32(n >> 32)})
}

// Low is a as a number, and yes, if it is below 2^64.
func Low(a []uint32) (uint64, bool) {
	if len(a) > 2 {
		return 0, false
	}
	n := uint64(0)
	for i, x := range a {
		n |= uint64(x) << (32 * i)
	}
	return n, true
}

// Bits is the least n of which 2^n is above a.
func Bits(a []uint32) int {
	if len(a) == 0 {
		return 0
	}
	return 32*(len(a)-1) + bits.Len32(a[len(a)-1])
}

// Bit is the i-th bit of a, from the lowest on.
func Bit(a []uint32, i int) uint32 {
	if i < 0 || i/32 >= len(a) {
		return 0
	}
	return a[i/32] >> (i % 32) & 1
}

// Cmp is -1, 0 or 1, as a is less than b, alike, or greater.
func Cmp(a []uint32, b []uint32) int {
	if len(a) != len(b) {
		return cmp.Compare(len(a), len(b))
	}
	for i, x := range slices.Backward(a) {
		if x != b[i] {
			return cmp.Compare(x, b[i])
		}
	}
	return 0
}

// pairs tells the limbs of a, which has not the fewer ones, each with b's in the same place.
func pairs(a, b []uint32) iter.Seq2[uint32, uint32] {
	return func(yield func(uint32, uint32) bool) {
		for i, y := range b {
			if !yield(a[i], y) {
				return
			}
		}
		for _, x := range a[len(b):] {
			if !yield(x, 0) {
				return
			}
		}
	}
}

// adder adds limbs, from the lowest on, and keeps what is carried.
func adder() func(x, y uint32) uint32 {
	carry := uint32(0)
	return func(x, y uint32) uint32 {
		s, c := bits.Add32(x, y, carry)
		carry = c
		return s
	}
}

// taker takes limbs away, from the lowest on, and keeps what is borrowed.
func taker() func(x, y uint32) uint32 {
	borrow := uint32(0)
	return func(x, y uint32) uint32 {
		d, c := bits.Sub32(x, y, borrow)
		borrow = c
		return d
	}
}

// Add is the sum of a and b.
func Add(a []uint32, b []uint32) []uint32 {
	if len(a) < len(b) {
		a, b = b, a
	}
	sum := make([]uint32, 0, len(a)+1)
	next := adder()
	for x, y := range pairs(a, b) {
		sum = append(sum, next(x, y))
	}
	return Make(append(sum, next(0, 0)))
}

// Sub is a less b, and yes, if b is not greater.
func Sub(a []uint32, b []uint32) ([]uint32, bool) {
	if Cmp(a, b) < 0 {
		return nil, false
	}
	rest := make([]uint32, 0, len(a))
	next := taker()
	for x, y := range pairs(a, b) {
		rest = append(rest, next(x, y))
	}
	return Make(rest), true
}

// Shl is a times 2^n.
func Shl(a []uint32, n int) []uint32 {
	if len(a) == 0 || n < 0 {
		return nil
	}
	limbs, by := n/32, n%32
	out := make([]uint32, limbs+len(a)+1)
	// A shift by 32 is 0, so that by = 0 needs no case of its own.
	for i, x := range a {
		out[limbs+i] |= x << by
		out[limbs+i+1] = x >> (32 - by)
	}
	return Make(out)
}

// Shr is a over 2^n, cut.
func Shr(a []uint32, n int) []uint32 {
	if n < 0 || n/32 >= len(a) {
		return nil
	}
	a, by := a[n/32:], n%32
	out := make([]uint32, len(a))
	for i, x := range a {
		out[i] = x >> by
		if i > 0 {
			out[i-1] |= x << (32 - by)
		}
	}
	return Make(out)
}
