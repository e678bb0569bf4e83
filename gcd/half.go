package gcd

import (
	"ziggurat/api"
	"ziggurat/div"
	"ziggurat/integer"
	"ziggurat/nat"
)

// Where halves are better than leading bits, in limbs.
const (
	leastParts = 200  // of what is halved again
	leastHalf  = 3000 // of the whole
)

// square is a matrix of two rows, whose determinant is 1 or -1: what it makes of two numbers has the same common divisors.
type square [2][2]api.Int

// same is the matrix that changes nothing.
func same() square {
	one := integer.Of(1)
	return square{{one, {}}, {{}, one}}
}

// row is u a and v b, added.
func row(r [2]api.Int, a, b api.Int) api.Int {
	return integer.Add(integer.Mul(r[0], a), integer.Mul(r[1], b))
}

// after is what comes of m first, and then of s.
func (s square) after(m square) square {
	var z square
	for i, r := range s {
		for j := range 2 {
			z[i][j] = row(r, m[0][j], m[1][j])
		}
	}
	return z
}

// state is two numbers, neither below 0, the greater one first, and what made them of those at the beginning.
type state struct {
	a, b []uint32
	m    square
}

// put is the state that comes of s by a further matrix, and of it alone on two numbers: rows are turned, so that none is below 0, and swapped, so that the greater one is first.
func (s state) put(m square) state {
	a, b := integer.Make(false, s.a), integer.Make(false, s.b)
	var out [2]api.Int
	for i := range m {
		out[i] = row(m[i], a, b)
		if integer.Sign(out[i]) < 0 {
			out[i] = integer.Neg(out[i])
			m[i] = [2]api.Int{integer.Neg(m[i][0]), integer.Neg(m[i][1])}
		}
	}
	if integer.Cmp(out[0], out[1]) < 0 {
		out[0], out[1], m[0], m[1] = out[1], out[0], m[1], m[0]
	}
	return state{out[0].Mag, out[1].Mag, m.after(s.m)}
}

// once is one of Euclid's steps.
func (s state) once() state {
	q, r, _ := div.DivMod(s.a, s.b)
	one := integer.Of(1)
	m := square{{{}, one}, {one, integer.Make(true, q)}}
	return state{s.b, r, m.after(s.m)}
}

// lead is many of Euclid's steps at once, if the leading bits tell them, or one.
func (s state) lead() state {
	if len(s.a) > 2 {
		g := guess(s.a, s.b, func(uint64) {})
		if !g.none() {
			z := state{}
			z.a, z.b = g.rests(s.a, s.b)
			of := func(neg bool, n uint64) api.Int { return integer.Make(neg, nat.Of(n)) }
			m := square{{of(!g.even, g.u0), of(g.even, g.v0)}, {of(g.even, g.u1), of(!g.even, g.v1)}}
			z.m = m.after(s.m)
			return z
		}
	}
	return s.once()
}

// halved goes on from a and b, of which a is not less, until about half of a's limbs are left of the second one.
func halved(a, b []uint32) state {
	s := state{a, b, same()}
	half := len(a)/2 + 1
	if len(b) <= half {
		return s
	}
	if len(a) < leastParts {
		for len(s.b) > half {
			s = s.lead()
		}
		return s
	}
	// The upper half tells how the first quarter goes, and then the upper part of what is left the second one.
	s = s.put(halved(nat.Shr(a, 32*half), nat.Shr(b, 32*half)).m)
	if len(s.b) > half {
		s = s.once()
	}
	if len(s.b) > half {
		low := max(2*half-len(s.a), 0)
		s = s.put(halved(nat.Shr(s.a, 32*low), nat.Shr(s.b, 32*low)).m)
	}
	return s
}

// byHalves goes on until one of both numbers is 0 or so small that leading bits do better.
func byHalves(a, b []uint32) state {
	s := state{a, b, same()}
	if nat.Cmp(a, b) < 0 {
		s = s.put(same())
	}
	for len(s.b) > leastParts {
		next := halved(s.a, s.b)
		s = state{next.a, next.b, next.m.after(s.m)}
		if len(s.b) > 0 {
			s = s.once()
		}
	}
	return s
}
