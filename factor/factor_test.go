package factor

import (
	"math/rand"
	"slices"
	"testing"

	"ziggurat/api"
	"ziggurat/integer"
	"ziggurat/modp"
	"ziggurat/poly"
	"ziggurat/rat"
)

func of(l ...int64) []api.Int {
	var p []api.Int
	for _, n := range l {
		p = append(p, integer.Of(n))
	}
	return poly.Make(p)
}

func equal(a, b []api.Int) bool { return Cmp(a, b) == 0 }

func some(r *rand.Rand, n int, size int64) []api.Int {
	p := make([]api.Int, n)
	for i := range p {
		p[i] = integer.Of(r.Int63n(2*size+1) - size)
	}
	return poly.Make(p)
}

// check tells the factors of f, after it has looked whether they are f.
func check(t *testing.T, f []api.Int) []api.Factor {
	t.Helper()
	c, l, err := Factor(f)
	all := poly.Scale(of(1), c)
	for i, x := range l {
		if x.K < 1 || poly.Deg(x.P) < 1 || !equal(poly.Prim(x.P), x.P) || !Irreducible(x.P) {
			t.Fatal("factor", f, x)
		}
		if i > 0 && Cmp(l[i-1].P, x.P) >= 0 {
			t.Fatal("order", f, l)
		}
		for range x.K {
			all = poly.Mul(all, x.P)
		}
	}
	if err != api.OK || !equal(all, f) || !integer.Right(c) {
		t.Fatal("product", f, c, l)
	}
	return l
}

func names(l []api.Factor) string {
	s := ""
	for _, x := range l {
		for i, c := range x.P {
			if i > 0 {
				s += ","
			}
			s += integer.Text(c)
		}
		s += "^" + integer.Text(integer.Of(int64(x.K))) + " "
	}
	return s
}

func TestExamples(t *testing.T) {
	for _, x := range []struct {
		f    []api.Int
		c    int64
		want string
	}{
		{of(4, 0, 0, 0, 1), 1, "2,-2,1^1 2,2,1^1 "},
		{of(0, -6, 12, -6), -6, "-1,1^2 0,1^1 "},
		{of(1, 0, 0, 0, 1), 1, "1,0,0,0,1^1 "},
		{of(7), 7, ""},
		{of(-7), -7, ""},
		{of(0, -2), -2, "0,1^1 "},
		{of(-1, 0, 4), 1, "-1,2^1 1,2^1 "},
	} {
		c, l, err := Factor(x.f)
		if err != api.OK || integer.Cmp(c, integer.Of(x.c)) != 0 || names(l) != x.want {
			t.Fatal(x.f, c, names(l))
		}
	}
	if c, l, err := Factor(nil); err != api.ErrZero || integer.Sign(c) != 0 || l != nil {
		t.Fatal("0")
	}
	long := make([]api.Int, 42)
	long[41] = integer.Of(1)
	if c, l, err := Factor(long); err != api.ErrBig || integer.Sign(c) != 0 || l != nil || Irreducible(long) {
		t.Fatal("degree 41")
	}
	if Irreducible(nil) || Irreducible(of(5)) || !Irreducible(of(4, 2)) || Irreducible(of(1, 2, 1)) || !Irreducible(of(2, 0, 2)) {
		t.Fatal("Irreducible")
	}
}

func TestBoundAndCmp(t *testing.T) {
	for _, x := range []struct {
		f    []api.Int
		want string
	}{{nil, "0"}, {of(-5), "5"}, {of(3, 4), "10"}, {of(1, 1), "4"}, {of(0, 0, -2), "8"}} {
		if b := Bound(x.f); integer.Text(b) != x.want {
			t.Fatal(x, integer.Text(b))
		}
	}
	l := [][]api.Int{nil, of(-3), of(2), of(9, -1), of(-1, 1), of(0, 1), of(0, 2), of(9, 9, 1), of(0, 10, 1)}
	for i, a := range l {
		for j, b := range l {
			if want := min(max(i-j, -1), 1); Cmp(a, b) != want {
				t.Fatal(a, b)
			}
		}
	}
}

func TestProducts(t *testing.T) {
	r := rand.New(rand.NewSource(1))
	for n := range 60 {
		f, g := some(r, 2+n%6, 9), some(r, 2+n%4, 30)
		if len(f) < 2 || len(g) < 2 {
			continue
		}
		both := append(check(t, f), check(t, g)...)
		got := check(t, poly.Scale(poly.Mul(f, g), integer.Of(-12)))
		for _, x := range got {
			k := 0
			for _, y := range both {
				if equal(x.P, y.P) {
					k += y.K
				}
			}
			if k != x.K {
				t.Fatal("of both", f, g)
			}
			bound := Bound(poly.Mul(f, g))
			for _, c := range x.P {
				if integer.Cmp(integer.Make(false, c.Mag), bound) > 0 {
					t.Fatal("bound", f, g)
				}
			}
		}
		for a := int64(-9); a <= 9; a++ {
			for b := int64(1); b < 5; b++ {
				q, _ := rat.Make(integer.Of(a), integer.Of(b))
				linear := []api.Int{integer.Neg(q.Num), integer.Make(false, q.Den)}
				is := slices.ContainsFunc(check(t, f), func(x api.Factor) bool { return equal(x.P, linear) })
				if is != (poly.Sign(f, q) == 0) {
					t.Fatal("roots", f, a, b)
				}
			}
		}
		moved := check(t, poly.Shift(f, integer.Of(3)))
		for _, x := range check(t, f) {
			m := poly.Shift(x.P, integer.Of(3))
			if !slices.ContainsFunc(moved, func(y api.Factor) bool { return equal(m, y.P) && x.K == y.K }) {
				t.Fatal("moved", f)
			}
			m = poly.Prim(poly.Mirror(x.P))
			if !slices.ContainsFunc(check(t, poly.Mirror(f)), func(y api.Factor) bool { return equal(m, y.P) && x.K == y.K }) {
				t.Fatal("mirrored", f)
			}
		}
	}
}

// swinnerton is the polynomial whose roots are all sums of square roots of some primes, with any signs: it splits modulo each prime.
func swinnerton(primes ...int64) []api.Int {
	f := of(0, 1)
	for _, p := range primes {
		// f(x + s) f(x - s), with s^2 = p: even and odd powers of s apart.
		even, odd := []api.Int(nil), []api.Int(nil)
		step := f
		scale := integer.Of(1)
		for k := 0; len(step) > 0; k++ {
			if k%2 == 0 {
				even = poly.Add(even, poly.Scale(step, scale))
			} else {
				odd = poly.Add(odd, poly.Scale(step, scale))
				scale = integer.Mul(scale, integer.Of(p))
			}
			step = poly.Diff(step)
			for i, c := range step {
				step[i], _ = integer.Exact(c, integer.Of(int64(k)+1))
			}
		}
		f = poly.Sub(poly.Mul(even, even), poly.Scale(poly.Mul(odd, odd), integer.Of(p)))
	}
	return f
}

func TestWitnesses(t *testing.T) {
	for _, f := range [][]api.Int{swinnerton(2, 3), swinnerton(2, 3, 5), swinnerton(2, 3, 5, 7), swinnerton(2, 3, 5, 7, 11)} {
		if !Irreducible(f) {
			t.Fatal("sums of square roots", poly.Deg(f))
		}
	}
	if l := check(t, poly.Mul(swinnerton(2, 3, 5, 7), swinnerton(2, 3, 5, 11))); len(l) != 2 {
		t.Fatal(len(l))
	}
	for n := 2; n <= 40; n += 19 {
		eisenstein := make([]api.Int, n+1)
		for i := range eisenstein {
			eisenstein[i] = integer.Of(int64(6 * (i%3 - 1)))
		}
		eisenstein[0], eisenstein[n] = integer.Of(6), integer.Of(35)
		if !Irreducible(eisenstein) {
			t.Fatal("Eisenstein", n)
		}
	}
	for n, want := range map[int]int{12: 6, 30: 8, 36: 9, 40: 8} {
		f := make([]api.Int, n+1)
		f[0], f[n] = integer.Of(-1), integer.Of(1)
		if l := check(t, f); len(l) != want {
			t.Fatal("x^n - 1", n, len(l))
		}
	}
	r := rand.New(rand.NewSource(2))
	for range 20 {
		f := some(r, 9, 40)
		for _, p := range []uint32{3, 5, 7, 11} {
			if g := modp.Reduce(f, p); len(g) == len(f) && modp.Irreducible(g, p) && !Irreducible(f) {
				t.Fatal("irreducible modulo", p, f)
			}
		}
	}
}

func TestGreat(t *testing.T) {
	r := rand.New(rand.NewSource(3))
	f, g := some(r, 16, 1<<60), some(r, 20, 1<<60)
	f, g = poly.Mul(f, of(-5, 1)), poly.Add(poly.Scale(g, integer.Pow(integer.Of(3), 300)), of(1))
	if l := check(t, poly.Mul(f, g)); len(l) < 3 {
		t.Fatal(len(l))
	}
}

func TestLift(t *testing.T) {
	r := rand.New(rand.NewSource(4))
	for _, p := range []uint32{2, 3, 5, 101, 65521} {
		for range 30 {
			g, h := modp.Reduce(append(some(r, r.Intn(4), 1<<40), integer.Of(1)), p), modp.Reduce(append(some(r, r.Intn(4), 1<<40), integer.Of(1)), p)
			lead := integer.Of(int64(p)*r.Int63n(9) + 1)
			f := poly.Scale(poly.Mul(wide(g), wide(h)), lead)
			noise := poly.Scale(some(r, len(f)-1, 1<<50), integer.Of(int64(p)))
			f = poly.Add(f, noise)
			if len(modp.Gcd(g, h, p)) != 1 {
				if a, b, err := Lift(f, g, h, api.Power{P: p, K: 3}); err != api.ErrArg || a != nil || b != nil {
					t.Fatal("in common", p, g, h)
				}
				continue
			}
			for _, k := range []int{1, 2, 3, 7, 40} {
				m := integer.Pow(integer.Of(int64(p)), k)
				a, b, err := Lift(f, g, h, api.Power{P: p, K: k})
				if err != api.OK || !slices.Equal(modp.Reduce(a, p), g) || !slices.Equal(modp.Reduce(b, p), h) {
					t.Fatal(p, k, g, h)
				}
				if len((ring{m}).reduce(poly.Sub(f, poly.Scale(poly.Mul(a, b), lead)))) > 0 || !equal(ring{m}.reduce(a), a) || !equal(ring{m}.reduce(b), b) || integer.Text(a[len(a)-1]) != "1" || integer.Text(b[len(b)-1]) != "1" {
					t.Fatal("not f", p, k, g, h)
				}
				far, _, _ := Lift(f, g, h, api.Power{P: p, K: k + 5})
				if !equal(ring{m}.reduce(far), a) {
					t.Fatal("lifted less far", p, k)
				}
			}
		}
	}
	f, g, h := of(-1, 0, 1), []uint32{1, 1}, []uint32{4, 1}
	for i, x := range []struct {
		f    []api.Int
		g, h []uint32
		m    api.Power
	}{
		{f, g, h, api.Power{P: 4, K: 2}}, {f, g, h, api.Power{P: 5, K: 0}}, {f, g, h, api.Power{P: 5, K: 401}}, {f, g, h, api.Power{P: 65537, K: 1}},
		{nil, g, h, api.Power{P: 5, K: 2}}, {f, nil, h, api.Power{P: 5, K: 2}}, {f, []uint32{1, 2}, []uint32{2, 3}, api.Power{P: 5, K: 2}},
		{f, []uint32{1, 1, 0}, h, api.Power{P: 5, K: 2}}, {f, []uint32{6, 1}, h, api.Power{P: 5, K: 2}}, {f, g, g, api.Power{P: 5, K: 2}},
		{of(-1, 0, 6), g, h, api.Power{P: 3, K: 2}}, {of(-1, 0, 2), g, h, api.Power{P: 5, K: 2}},
	} {
		if a, b, err := Lift(x.f, x.g, x.h, x.m); err != api.ErrArg || a != nil || b != nil {
			t.Fatal(i, a, b, err)
		}
	}
	if _, _, err := Lift(f, g, h, api.Power{P: 5, K: 400}); err != api.OK {
		t.Fatal("400")
	}
}
