package div

import (
	"ziggurat/api"
	"ziggurat/mul"
	"ziggurat/nat"
)

// leastSteps is how many bits of a reciprocal are worth a step; fewer come of school division.
const leastSteps = 2000

// below is not above 2^(size + k) over b, which is about 2^size, and less than two units below: each step makes it twice as exact.
func below(b []uint32, size, k int) []uint32 {
	// Of b the first bits are enough; a unit more keeps the answer below.
	if over := size - (k + 4); over > 0 {
		b, size = nat.Add(nat.Shr(b, over), []uint32{1}), k+4
	}
	if k < leastSteps {
		q, _, _ := school(nat.Shl([]uint32{1}, size+k), b)
		return q
	}
	h := k/2 + 4
	r := below(b, size, h)
	// 2 r - b r^2, at the scale of k: x (2 - x) is nowhere above 1, so it stays below.
	twice := nat.Shl(r, k-h+1)
	square := mul.Mul(mul.Mul(r, r), b)
	over := nat.Add(nat.Shr(square, size+2*h-k), []uint32{1})
	return less(twice, over)
}

// Recip is 2^n over b, cut.
func Recip(b []uint32, n int) ([]uint32, api.Errno) {
	if len(b) == 0 {
		return nil, api.ErrZero
	}
	k := n - nat.Bits(b)
	if k < leastSteps {
		q, _, err := school(nat.Shl([]uint32{1}, n), b)
		return q, err
	}
	q, _ := mend(nat.Shl([]uint32{1}, n), b, below(b, nat.Bits(b), k))
	return q, api.OK
}

// Newton divides by a reciprocal.
func Newton(a []uint32, b []uint32) ([]uint32, []uint32, api.Errno) {
	if len(b) == 0 {
		return nil, nil, api.ErrZero
	}
	if nat.Cmp(a, b) < 0 {
		return nil, a, api.OK
	}
	size := nat.Bits(b)
	k := nat.Bits(a) - size + 1
	q := nat.Shr(mul.Mul(nat.Shr(a, size-1), below(b, size, k)), k+1)
	q, r := mend(a, b, q)
	return q, r, api.OK
}

// mend makes of q, which is at most a little below the quotient of a by b, the quotient, and tells the rest.
func mend(a, b, q []uint32) ([]uint32, []uint32) {
	r := less(a, mul.Mul(q, b))
	more := uint64(0)
	for nat.Cmp(r, b) >= 0 {
		r = less(r, b)
		more++
	}
	return nat.Add(q, nat.Of(more)), r
}
