package modp

import (
	"cmp"
	"math/rand"
	"slices"
	"testing"

	"ziggurat/api"
	"ziggurat/integer"
	"ziggurat/poly"
)

var primes = []uint32{2, 3, 5, 7, 37, 41, 101, 65521}

func some(r *rand.Rand, n int, p uint32) []uint32 {
	f := make([]uint32, n)
	for i := range f {
		f[i] = r.Uint32() % p
		if r.Intn(4) == 0 {
			f[i] = 0
		}
	}
	return trim(f)
}

func at(f []uint32, x, p uint32) uint32 {
	v := uint64(0)
	for _, c := range slices.Backward(f) {
		v = (v*uint64(x) + uint64(c)) % uint64(p)
	}
	return uint32(v)
}

func whole(f []uint32) []api.Int {
	out := make([]api.Int, len(f))
	for i, c := range f {
		out[i] = integer.Of(int64(c) - 30)
	}
	return poly.Make(out)
}

func TestPrimeAndRight(t *testing.T) {
	count := 0
	for p := range uint32(70000) {
		if Prime(p) {
			count++
		}
	}
	if count != 6542 || !Prime(65521) || Prime(65537) || Prime(1<<32-1) || Prime(0) || Prime(1) || !Prime(2) {
		t.Fatal(count)
	}
	if !Right(nil, 2) || Right([]uint32{0}, 2) || Right([]uint32{2}, 2) || Right([]uint32{5, 1}, 5) || !Right([]uint32{4, 1}, 5) || Right([]uint32{1}, 0) {
		t.Fatal("Right")
	}
}

func TestSumsProductsQuotients(t *testing.T) {
	r := rand.New(rand.NewSource(1))
	for _, p := range primes {
		for n := range 12 {
			a, b := some(r, n, p), some(r, (n*5)%7+n%2, p)
			s, m := Add(a, b, p), Mul(a, b, p)
			if !Right(s, p) || !Right(m, p) {
				t.Fatal(p, a, b)
			}
			for x := range min(p, 20) {
				if at(s, x, p) != (at(a, x, p)+at(b, x, p))%p || uint64(at(m, x, p)) != uint64(at(a, x, p))*uint64(at(b, x, p))%uint64(p) {
					t.Fatal("values", p, a, b)
				}
			}
			x, y := whole(a), whole(b)
			if !slices.Equal(Reduce(poly.Mul(x, y), p), Mul(Reduce(x, p), Reduce(y, p), p)) || !slices.Equal(Reduce(poly.Add(x, y), p), Add(Reduce(x, p), Reduce(y, p), p)) {
				t.Fatal("Reduce", p)
			}
			q, rest, err := DivMod(a, b, p)
			if len(b) == 0 {
				if err != api.ErrZero || q != nil || rest != nil {
					t.Fatal("by 0")
				}
				continue
			}
			if err != api.OK || !Right(q, p) || !Right(rest, p) || len(rest) >= len(b) && len(rest) > 0 || !slices.Equal(Add(Mul(q, b, p), rest, p), a) {
				t.Fatal("DivMod", p, a, b)
			}
			g := Gcd(a, b, p)
			for _, f := range [][]uint32{a, b} {
				if _, r, _ := DivMod(f, g, p); len(r) > 0 || g[len(g)-1] != 1 {
					t.Fatal("Gcd", p, a, b, g)
				}
			}
			if c := []uint32{1, 1, 1}; !slices.Equal(Gcd(Mul(a, c, p), Mul(b, c, p), p), Mul(g, c, p)) {
				t.Fatal("common factor", p, a, b)
			}
		}
		if len(Gcd(nil, nil, p)) != 0 {
			t.Fatal("of 0 and 0")
		}
	}
	if f := Reduce([]api.Int{integer.Of(-1), integer.Of(7), integer.Of(-7)}, 7); !slices.Equal(f, []uint32{6}) {
		t.Fatal(f)
	}
}

func TestPowMod(t *testing.T) {
	r := rand.New(rand.NewSource(2))
	for _, p := range primes {
		m := api.Modulus{F: append(some(r, 5, p), 1), P: p}
		b := some(r, 9, p)
		_, want, _ := DivMod([]uint32{1}, m.F, p)
		for e := range uint32(20) {
			got, err := PowMod(b, trim([]uint32{e}), m)
			if err != api.OK || !slices.Equal(got, want) {
				t.Fatal(p, e)
			}
			_, want, _ = DivMod(Mul(want, b, p), m.F, p)
		}
		long, _ := PowMod(b, []uint32{77, 5}, m)
		x, _ := PowMod(b, []uint32{0, 5}, m)
		y, _ := PowMod(b, []uint32{77}, m)
		if _, z, _ := DivMod(Mul(x, y, p), m.F, p); !slices.Equal(z, long) {
			t.Fatal("exponents are added", p)
		}
		if z, err := PowMod(b, []uint32{1}, api.Modulus{P: p}); err != api.ErrZero || z != nil {
			t.Fatal("modulo 0")
		}
		if z, err := PowMod(b, nil, api.Modulus{F: []uint32{1}, P: p}); err != api.ErrArg || z != nil {
			t.Fatal("modulo a constant")
		}
	}
}

// splits tells by trying all monic polynomials whether f has a factor of a degree of 1 to half of its own.
func splits(f []uint32, p uint32) bool {
	for d := 1; 2*d < len(f); d++ {
		n := 1
		for range d {
			n *= int(p)
		}
		for i := range n {
			g := make([]uint32, d+1)
			copy(g, counted(i, p))
			g[d] = 1
			if _, r, _ := DivMod(f, g, p); len(r) == 0 {
				return true
			}
		}
	}
	return false
}

func check(t *testing.T, f []uint32, p uint32) {
	t.Helper()
	lead, l := Factor(f, p)
	all := trim([]uint32{lead})
	for i, x := range l {
		if x.K < 1 || !Right(x.P, p) || len(x.P) < 2 || x.P[len(x.P)-1] != 1 || !Irreducible(x.P, p) {
			t.Fatal(f, p, x)
		}
		if i > 0 && cmp.Or(cmp.Compare(len(l[i-1].P), len(x.P)), slices.Compare(l[i-1].P, x.P)) >= 0 {
			t.Fatal("order", f, p, l)
		}
		if d := len(x.P) - 1; d <= 6 {
			e := integer.Pow(integer.Of(int64(p)), d).Mag
			_, want, _ := DivMod([]uint32{0, 1}, x.P, p)
			if h, _ := PowMod([]uint32{0, 1}, e, api.Modulus{F: x.P, P: p}); !slices.Equal(h, want) {
				t.Fatal("powers", f, p)
			}
		}
		for range x.K {
			all = Mul(all, x.P, p)
		}
	}
	if !slices.Equal(all, f) {
		t.Fatal("product", f, p, l)
	}
	if Irreducible(f, p) != (len(l) == 1 && l[0].K == 1) {
		t.Fatal("Irreducible", f, p)
	}
	for x := range min(p, 50) {
		linear := trim([]uint32{(p - x) % p, 1})
		is := slices.ContainsFunc(l, func(y api.ModFactor) bool { return slices.Equal(y.P, linear) })
		if len(f) > 0 && is != (at(f, x, p) == 0) {
			t.Fatal("roots", f, p, x)
		}
	}
}

func TestFactors(t *testing.T) {
	r := rand.New(rand.NewSource(3))
	for _, p := range primes {
		for n := range 14 {
			f, g := some(r, n, p), some(r, n/2+1, p)
			check(t, f, p)
			check(t, Mul(f, g, p), p)
			check(t, Mul(Mul(f, f, p), Mul(g, Mul(g, g, p), p), p), p)
			if p <= 7 {
				check(t, append(make([]uint32, n), 1), p)
				pth := make([]uint32, 3*int(p)+1)
				pth[0], pth[p], pth[3*p] = 1, 1, 1
				check(t, Mul(pth, f, p), p)
			}
		}
	}
}

func TestIrreducible(t *testing.T) {
	for _, p := range []uint32{2, 3, 5} {
		for n := range 250 {
			if f := counted(n, p); Irreducible(f, p) != (len(f) > 1 && !splits(f, p)) {
				t.Fatal(f, p)
			}
		}
	}
}

func TestBothWaysTellTheSame(t *testing.T) {
	for _, p := range []uint32{41, 53, 3, 37} {
		var parts [][]uint32
		f := []uint32{1}
		for n := int(p) * int(p); len(parts) < 5; n++ {
			if g := counted(n, p); len(g) > 2 {
				if g = monic(g, p); len(g) == 3 && Irreducible(g, p) && !slices.ContainsFunc(parts, func(h []uint32) bool { return slices.Equal(g, h) }) {
					parts, f = append(parts, g), Mul(f, g, p)
				}
			}
			if p == 3 && len(parts) == 3 {
				break
			}
		}
		for i, way := range ways() {
			l := way.split(f, 2, p)
			slices.SortFunc(l, slices.Compare)
			slices.SortFunc(parts, slices.Compare)
			if !slices.EqualFunc(l, parts, slices.Equal) {
				t.Fatal(p, i, l, parts)
			}
		}
	}
}

func TestExamples(t *testing.T) {
	same := func(f []uint32, p, lead uint32, want ...api.ModFactor) {
		t.Helper()
		got, l := Factor(f, p)
		if got != lead || !slices.EqualFunc(l, want, func(a, b api.ModFactor) bool { return a.K == b.K && slices.Equal(a.P, b.P) }) {
			t.Fatal(f, p, got, l)
		}
	}
	same([]uint32{1, 0, 1}, 5, 1, api.ModFactor{P: []uint32{2, 1}, K: 1}, api.ModFactor{P: []uint32{3, 1}, K: 1})
	same([]uint32{2, 0, 0, 0, 2}, 3, 2, api.ModFactor{P: []uint32{2, 1, 1}, K: 1}, api.ModFactor{P: []uint32{2, 2, 1}, K: 1})
	same([]uint32{0, 0, 1}, 2, 1, api.ModFactor{P: []uint32{0, 1}, K: 2})
	same(nil, 7, 0)
	same([]uint32{5}, 7, 5)
	if !Irreducible([]uint32{1, 0, 1}, 7) || Irreducible([]uint32{1, 0, 1}, 5) || Irreducible([]uint32{3}, 7) || Irreducible(nil, 7) || !Irreducible([]uint32{3, 2}, 7) {
		t.Fatal("Irreducible")
	}
}

func TestLong(t *testing.T) {
	r := rand.New(rand.NewSource(4))
	for _, p := range []uint32{2, 37, 65521} {
		check(t, append(some(r, 100, p), 1), p)
		f := make([]uint32, 62)
		f[0], f[61] = p-1, 1
		check(t, f, p)
	}
}
