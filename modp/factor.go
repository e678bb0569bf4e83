package modp

import (
	"cmp"
	"slices"

	"ziggurat/api"
	"ziggurat/integer"
	"ziggurat/nat"
)

// fewest is the prime from which on powers tell factors apart; below, a matrix does.
const fewest = 40

// way is how a product of monic factors of one degree is split, and how far it goes: of few primes a matrix is quick, of others powers are.
type way struct {
	may   func(p uint32) bool
	split func(f []uint32, d int, p uint32) [][]uint32
}

// ways are both, in the order in which they are asked whether they may be.
func ways() [2]way {
	return [2]way{
		{func(p uint32) bool { return p < fewest }, byMatrix},
		{func(p uint32) bool { return true }, byPowers},
	}
}

// rootOf is the polynomial whose power p is f, all of whose exponents are multiples of p; a coefficient is its own power p.
func rootOf(f []uint32, p uint32) []uint32 {
	var out []uint32
	for i := 0; i < len(f); i += int(p) {
		out = append(out, f[i])
	}
	return out
}

// free tells the square-free parts of f, which is monic, with how often they stand there.
func free(f []uint32, p uint32, yield func(part []uint32, k int)) {
	common := Gcd(f, diff(f, p), p)
	left := over(f, common, p)
	for k := 1; len(left) > 1; k++ {
		more := Gcd(left, common, p)
		if part := over(left, more, p); len(part) > 1 {
			yield(part, k)
		}
		left, common = more, over(common, more, p)
	}
	// What is left stands there a multiple of p times.
	if len(common) > 1 {
		free(rootOf(common, p), p, func(part []uint32, k int) { yield(part, k*int(p)) })
	}
}

// frobenius tells x to the power of p, p^2 and so on, modulo f, one at each call.
func frobenius(f []uint32, p uint32) func() []uint32 {
	h := []uint32{0, 1}
	return func() []uint32 {
		h, _ = PowMod(h, []uint32{p}, api.Modulus{F: f, P: p})
		return h
	}
}

// fixed is what of f's factors have a degree that divides d, of h, which is x to the power of p^d modulo a multiple of f.
func fixed(f, h []uint32, p uint32) []uint32 {
	return Gcd(Add(h, negative([]uint32{0, 1}, p), p), f, p)
}

// degrees tells products of all monic irreducible factors of one degree of f, which is monic and square-free, with the degree.
func degrees(f []uint32, p uint32, yield func(part []uint32, d int)) {
	next := frobenius(f, p)
	for d := 1; 2*d < len(f); d++ {
		part := fixed(f, next(), p)
		if len(part) > 1 {
			yield(part, d)
			f = over(f, part, p)
		}
	}
	if len(f) > 1 {
		yield(f, len(f)-1)
	}
}

// counted is the polynomial whose coefficients are n's digits to the base p.
func counted(n int, p uint32) []uint32 {
	var f []uint32
	for ; n > 0; n /= int(p) {
		f = append(f, uint32(n%int(p)))
	}
	return f
}

// byPowers splits a product of monic irreducible factors of degree d: powers of half of p^d less 1 are 1 modulo some of them, and -1 modulo others. The prime is odd.
func byPowers(f []uint32, d int, p uint32) [][]uint32 {
	if len(f)-1 == d {
		return [][]uint32{f}
	}
	less := integer.Sub(integer.Pow(integer.Of(int64(p)), d), integer.Of(1))
	half := nat.Shr(less.Mag, 1)
	var part []uint32
count:
	for n := int(p); ; n++ {
		h, _ := PowMod(counted(n, p), half, api.Modulus{F: f, P: p})
		part = Gcd(Add(h, []uint32{p - 1}, p), f, p)
		if len(part) > 1 && len(part) < len(f) {
			break count
		}
	}
	return append(byPowers(part, d, p), byPowers(over(f, part, p), d, p)...)
}

// kernel is a basis of the polynomials below f's degree whose power p is themselves, modulo f (Berlekamp).
func kernel(f []uint32, p uint32) [][]uint32 {
	n := len(f) - 1
	xp, _ := PowMod([]uint32{0, 1}, []uint32{p}, api.Modulus{F: f, P: p})
	// Row i is what comes of x^i, less it, and, behind that, which x^i it is: rows are added until what is ahead is as short as can be.
	rows := make([][]uint32, n)
	image := []uint32{1}
	for i := range rows {
		rows[i] = make([]uint32, 2*n)
		copy(rows[i], image)
		rows[i][i] = (rows[i][i] + p - 1) % p
		rows[i][n+i] = 1
		image = rest(Mul(image, xp, p), f, p)
	}
	done := 0
	for column := range n {
		pivot := done
		for pivot < n && rows[pivot][column] == 0 {
			pivot++
		}
		if pivot == n {
			continue
		}
		rows[done], rows[pivot] = rows[pivot], rows[done]
		clear := inverse(rows[done][column], p)
		for _, row := range rows[done+1:] {
			by := uint64(p-row[column]) * uint64(clear) % uint64(p)
			for j := range row {
				row[j] = uint32((uint64(row[j]) + by*uint64(rows[done][j])) % uint64(p))
			}
		}
		done++
	}
	var basis [][]uint32
	for _, row := range rows[done:] {
		basis = append(basis, trim(row[n:]))
	}
	return basis
}

// byMatrix splits a product of monic irreducible factors: each of the basis is one number modulo each factor, and of two factors they are not all alike.
func byMatrix(f []uint32, d int, p uint32) [][]uint32 {
	basis := kernel(f, p)
	parts := [][]uint32{f}
	for _, v := range basis {
		var finer [][]uint32
		for _, part := range parts {
			for c := uint32(0); c < p && len(part)-1 > d; c++ {
				if g := Gcd(Add(v, trim([]uint32{c}), p), part, p); len(g) > 1 && len(g) < len(part) {
					finer = append(finer, g)
					part = over(part, g, p)
				}
			}
			finer = append(finer, part)
		}
		parts = finer
	}
	return parts
}

// Factor is f's last coefficient, and its monic irreducible factors.
func Factor(f []uint32, p uint32) (uint32, []api.ModFactor) {
	if len(f) == 0 {
		return 0, nil
	}
	var l []api.ModFactor
	all := ways()
	way := all[slices.IndexFunc(all[:], func(w way) bool { return w.may(p) })]
	free(monic(f, p), p, func(part []uint32, k int) {
		degrees(part, p, func(part []uint32, d int) {
			for _, g := range way.split(part, d, p) {
				l = append(l, api.ModFactor{P: g, K: k})
			}
		})
	})
	slices.SortFunc(l, func(a, b api.ModFactor) int {
		return cmp.Or(cmp.Compare(len(a.P), len(b.P)), slices.Compare(a.P, b.P))
	})
	return f[len(f)-1], l
}

// Irreducible tells whether f is no constant, and no product of two that are none.
func Irreducible(f []uint32, p uint32) bool {
	if len(f) < 2 {
		return false
	}
	next := frobenius(f, p)
	for d := 1; 2*d < len(f); d++ {
		if len(fixed(f, next(), p)) > 1 {
			return false
		}
	}
	return true
}
