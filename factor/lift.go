package factor

import (
	"slices"

	"ziggurat/api"
	"ziggurat/integer"
	"ziggurat/modp"
	"ziggurat/poly"
)

// ring is whole numbers modulo a power of a prime.
type ring struct{ m api.Int }

// reduce is p with coefficients from 0 to below the modulus.
func (r ring) reduce(p []api.Int) []api.Int {
	out := make([]api.Int, len(p))
	for i, c := range p {
		_, out[i], _ = integer.DivMod(c, r.m)
	}
	return poly.Make(out)
}

// times is the product.
func (r ring) times(a, b []api.Int) []api.Int { return r.reduce(poly.Mul(a, b)) }

// divide is the quotient and the rest of a by b, whose lead is 1.
func (r ring) divide(a, b []api.Int) ([]api.Int, []api.Int) {
	q, rest, _ := poly.Pseudo(a, b)
	return r.reduce(q), r.reduce(rest)
}

// over is 1 over a constant modulo p, which is not 0.
func over(c []uint32, p uint32) []uint32 {
	q, _, _ := modp.DivMod([]uint32{1}, c, p)
	return q
}

// inverse is 1 over c, which has no divisor in common with p, modulo p to the power of k: each step makes it twice as exact.
func inverse(c api.Int, p uint32, k int) api.Int {
	z := wide(over(modp.Reduce([]api.Int{c}, p), p))[0]
	for j := 1; j < k; j *= 2 {
		twice := integer.Sub(integer.Of(2), integer.Mul(c, z))
		_, z, _ = integer.DivMod(integer.Mul(z, twice), integer.Pow(integer.Of(int64(p)), 2*j))
	}
	_, z, _ = integer.DivMod(z, integer.Pow(integer.Of(int64(p)), k))
	return z
}

// wide is a polynomial modulo a prime as one with whole coefficients.
func wide(f []uint32) []api.Int {
	out := make([]api.Int, len(f))
	for i, c := range f {
		out[i] = integer.Of(int64(c))
	}
	return out
}

// minus is a less b modulo p.
func minus(a, b []uint32, p uint32) []uint32 {
	return modp.Add(a, modp.Mul(b, []uint32{p - 1}, p), p)
}

// bezout is s and t of which s g and t h are 1 together, modulo p; g and h have nothing in common.
func bezout(g, h []uint32, p uint32) ([]uint32, []uint32) {
	type row struct{ r, s, t []uint32 }
	a, b := row{g, []uint32{1}, nil}, row{h, nil, []uint32{1}}
	for len(b.r) > 0 {
		q, r, _ := modp.DivMod(a.r, b.r, p)
		a, b = b, row{r, minus(a.s, modp.Mul(q, b.s, p), p), minus(a.t, modp.Mul(q, b.t, p), p)}
	}
	one := over(a.r, p)
	return modp.Mul(a.s, one, p), modp.Mul(a.t, one, p)
}

// lifted is two factors, with what makes 1 of them, modulo a power of a prime.
type lifted struct{ g, h, s, t []api.Int }

// twice is them modulo a multiple of that power, up to its square, of f, whose lead is 1 there (Hensel).
func (l lifted) twice(f []api.Int, r ring) lifted {
	e := r.reduce(poly.Sub(f, poly.Mul(l.g, l.h)))
	q, rest := r.divide(r.times(l.s, e), l.h)
	g := r.reduce(poly.Add(l.g, poly.Add(poly.Mul(l.t, e), poly.Mul(q, l.g))))
	h := r.reduce(poly.Add(l.h, rest))
	one := []api.Int{integer.Of(1)}
	b := r.reduce(poly.Sub(poly.Add(poly.Mul(l.s, g), poly.Mul(l.t, h)), one))
	c, d := r.divide(r.times(l.s, b), h)
	t := poly.Sub(poly.Sub(l.t, poly.Mul(l.t, b)), poly.Mul(c, g))
	return lifted{g, h, r.reduce(poly.Sub(l.s, d)), r.reduce(t)}
}

// lift is the two factors with leads 1, modulo m, that are g and h modulo its prime.
func lift(f []api.Int, g, h []uint32, m api.Power) ([]api.Int, []api.Int) {
	p := integer.Of(int64(m.P))
	f = ring{integer.Pow(p, m.K)}.reduce(poly.Scale(f, inverse(f[len(f)-1], m.P, m.K)))
	s, t := bezout(g, h, m.P)
	l := lifted{wide(g), wide(h), wide(s), wide(t)}
	for k := 1; k < m.K; {
		k = min(2*k, m.K)
		l = l.twice(f, ring{integer.Pow(p, k)})
	}
	return l.g, l.h
}

// isMonic tells whether g's lead is 1.
func isMonic(g []uint32) bool { return len(g) > 0 && g[len(g)-1] == 1 }

// mayLift tells whether the words of Lift take what is given.
func mayLift(f []api.Int, g, h []uint32, m api.Power) bool {
	if !modp.Prime(m.P) || m.K < 1 || m.K > 400 || !modp.Right(g, m.P) || !modp.Right(h, m.P) || !isMonic(g) || !isMonic(h) || len(f) == 0 {
		return false
	}
	lead := modp.Reduce(f[len(f)-1:], m.P)
	if len(lead) == 0 || len(modp.Gcd(g, h, m.P)) != 1 {
		return false
	}
	return slices.Equal(modp.Reduce(f, m.P), modp.Mul(modp.Mul(g, h, m.P), lead, m.P))
}

// Lift lifts two factors modulo a prime to its power.
func Lift(f []api.Int, g []uint32, h []uint32, m api.Power) ([]api.Int, []api.Int, api.Errno) {
	if !mayLift(f, g, h, m) {
		return nil, nil, api.ErrArg
	}
	a, b := lift(f, g, h, m)
	return a, b, api.OK
}
