package gcd

import (
	"iter"
	"math/bits"

	"ziggurat/div"
	"ziggurat/mul"
	"ziggurat/nat"
)

// step is many of Euclid's steps put together: of the numbers a and b come u0 a less v0 b and v1 b less u1 a, if it is even, or the same with the other sign.
type step struct {
	u0, u1, v0, v1 uint64
	even           bool
}

// leading is the first 64 bits of a, and those of b at the same places; a has three limbs at least, and is not less.
func leading(a, b []uint32) (uint64, uint64) {
	n := len(a)
	by := bits.LeadingZeros32(a[n-1])
	first := func(l []uint32) uint64 {
		at := func(i int) uint64 {
			if i < len(l) {
				return uint64(l[i])
			}
			return 0
		}
		return (at(n-1)<<32|at(n-2))<<by | at(n-3)>>(32-by)
	}
	return first(a), first(b)
}

// guess takes as many of Euclid's steps as the leading bits tell for certain, by Collins' condition, and tells each quotient.
func guess(a, b []uint32, each func(q uint64)) step {
	x, y := leading(a, b)
	s := step{}
	u0, u1, u2, v0, v1, v2 := uint64(0), uint64(1), uint64(0), uint64(0), uint64(0), uint64(1)
	held := uint64(0)
	for k := 0; y >= v2 && x-y >= v1+v2; k++ {
		if k > 0 {
			each(held)
		}
		held = x / y
		x, y = y, x%y
		u0, u1, u2 = u1, u2, u1+held*u2
		v0, v1, v2 = v1, v2, v1+held*v2
		s.even = !s.even
	}
	s.u0, s.u1, s.v0, s.v1 = u0, u1, v0, v1
	return s
}

// none tells whether it changes nothing.
func (s step) none() bool { return s.v0 == 0 }

// mixed is p x less q y, which is not below 0, of p and q below 2^32.
func mixed(x []uint32, p uint64, y []uint32, q uint64) []uint32 {
	out := make([]uint32, max(len(x), len(y))+1)
	up, down, borrow := uint64(0), uint64(0), uint32(0)
	for i := range out {
		if i < len(x) {
			up += p * uint64(x[i])
		}
		if i < len(y) {
			down += q * uint64(y[i])
		}
		out[i], borrow = bits.Sub32(uint32(up), uint32(down), borrow)
		up, down = up>>32, down>>32
	}
	return nat.Make(out)
}

// rests is what comes of a and b.
func (s step) rests(a, b []uint32) ([]uint32, []uint32) {
	if s.even {
		return mixed(a, s.u0, b, s.v0), mixed(b, s.v1, a, s.u1)
	}
	return mixed(b, s.v0, a, s.u0), mixed(a, s.u1, b, s.v1)
}

// sums is what comes of the sizes of two cofactors, one behind the other: their signs are unlike, so that both are added.
func (s step) sums(a, b []uint32) ([]uint32, []uint32) {
	plus := func(x []uint32, p uint64, y []uint32, q uint64) []uint32 {
		out := make([]uint32, max(len(x), len(y))+2)
		carry := uint64(0)
		for i := range out {
			more := uint64(0)
			if i < len(x) {
				carry += p * uint64(x[i]) & (1<<32 - 1)
				more += p * uint64(x[i]) >> 32
			}
			if i < len(y) {
				carry += q * uint64(y[i]) & (1<<32 - 1)
				more += q * uint64(y[i]) >> 32
			}
			out[i] = uint32(carry)
			carry = carry>>32 + more
		}
		return nat.Make(out)
	}
	return plus(a, s.u0, b, s.v0), plus(a, s.u1, b, s.v1)
}

// turn is a row of two numbers put into another one: what a step does to rests, or to cofactors.
type turn func(a, b []uint32) ([]uint32, []uint32)

// pair is two of Euclid's rests, one behind the other.
type pair struct {
	a, b []uint32
}

// rests tells Euclid's rests two by two, from a and b on until the second one is 0, by as many steps at once as can be told from the leading bits.
// Each quotient goes to each; what is done to the rests goes to along, as it is done to cofactors, with how many steps it is.
func rests(a, b []uint32, each func(q []uint32), along func(t turn, n int)) iter.Seq[pair] {
	return func(yield func(pair) bool) {
		for len(b) > 0 {
			if !yield(pair{a, b}) {
				return
			}
			if len(a) > 2 && nat.Cmp(a, b) >= 0 {
				n := 0
				s := guess(a, b, func(q uint64) {
					each(nat.Of(q))
					n++
				})
				if !s.none() {
					along(s.sums, n)
					a, b = s.rests(a, b)
					continue
				}
			}
			q, r, _ := div.DivMod(a, b)
			each(q)
			along(single(q).sums, 1)
			a, b = b, r
		}
		yield(pair{a, b})
	}
}

// single is one step, with a quotient of any size.
type single []uint32

// sums is what comes of the sizes of two cofactors.
func (q single) sums(a, b []uint32) ([]uint32, []uint32) {
	return b, nat.Add(a, mul.Mul(q, b))
}
