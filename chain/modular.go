package chain

import (
	"ziggurat/api"
	"ziggurat/integer"
)

// prime is one modulo which it is looked whether two polynomials have anything in common: where they have nothing there, they have nothing at all.
const prime = 1<<31 - 1

// row is a polynomial modulo the prime, without noughts at its end.
type row []uint64

// reduced is p modulo the prime.
func reduced(p []api.Int) row {
	out := make(row, len(p))
	for i, c := range p {
		_, r, _ := integer.DivMod(c, integer.Of(prime))
		for _, x := range r.Mag {
			out[i] = uint64(x)
		}
	}
	return out.trim()
}

// trim takes the noughts at the end away.
func (a row) trim() row {
	n := len(a)
	for n > 0 && a[n-1] == 0 {
		n--
	}
	return a[:n]
}

// inverse is 1 over x modulo the prime, by Fermat's theorem.
func inverse(x uint64) uint64 {
	z := uint64(1)
	for n := prime - 2; n > 0; n /= 2 {
		if n%2 == 1 {
			z = z * x % prime
		}
		x = x * x % prime
	}
	return z
}

// rest is that of a by b, which is not 0; it comes in a's place.
func (a row) rest(b row) row {
	over := inverse(b[len(b)-1])
	for len(a) >= len(b) {
		at := len(a) - len(b)
		by := prime - a[len(a)-1]*over%prime
		for i, x := range b {
			a[at+i] = (a[at+i] + by*x) % prime
		}
		a = a.trim()
	}
	return a
}

// apart tells whether a and b surely have no common divisor that is no constant.
func apart(a, b []api.Int) bool {
	x, y := reduced(a), reduced(b)
	// A divisor keeps its degree modulo a prime that does not divide a's lead.
	if len(x) < len(a) {
		return false
	}
	for len(y) > 0 {
		x, y = y, x.rest(y)
	}
	return len(x) == 1
}
