package chain

import (
	"math/big"
	"math/rand"
	"slices"
	"testing"

	"ziggurat/api"
	"ziggurat/integer"
	"ziggurat/poly"
	"ziggurat/rat"
)

func of(l ...int64) []api.Int {
	var p []api.Int
	for _, n := range l {
		p = append(p, integer.Of(n))
	}
	return poly.Make(p)
}

func equal(a, b []api.Int) bool {
	return slices.EqualFunc(a, b, func(x, y api.Int) bool { return integer.Cmp(x, y) == 0 })
}

func polys() [][]api.Int {
	r := rand.New(rand.NewSource(1))
	l := [][]api.Int{nil, of(1), of(-3), of(4), of(0, 1), of(-2, 0, 1), of(4, 4), of(-2, 0, 2), of(1, 0, 0, 0, 3), of(0, 0, 0, -7)}
	for n := range 7 {
		for range 3 {
			p := make([]api.Int, n+1)
			for i := range p {
				p[i] = integer.Of(r.Int63n(15) - 7)
			}
			l = append(l, poly.Make(p))
		}
	}
	return l
}

// sylvester is the determinant of Sylvester's matrix, reckoned with fractions.
func sylvester(a, b []api.Int) *big.Int {
	n, m := poly.Deg(a), poly.Deg(b)
	if n < 0 || m < 0 {
		return new(big.Int)
	}
	rows := make([][]*big.Rat, n+m)
	for i := range rows {
		rows[i] = make([]*big.Rat, n+m)
		for j := range rows[i] {
			rows[i][j] = new(big.Rat)
		}
		p, by := a, i
		if i >= m {
			p, by = b, i-m
		}
		for j := range p {
			rows[i][by+j].SetString(integer.Text(p[len(p)-1-j]))
		}
	}
	det := big.NewRat(1, 1)
	for k := range rows {
		pivot := k
		for pivot < len(rows) && rows[pivot][k].Sign() == 0 {
			pivot++
		}
		if pivot == len(rows) {
			return new(big.Int)
		}
		if pivot != k {
			rows[k], rows[pivot] = rows[pivot], rows[k]
			det.Neg(det)
		}
		det.Mul(det, rows[k][k])
		for i := k + 1; i < len(rows); i++ {
			f := new(big.Rat).Quo(rows[i][k], rows[k][k])
			for j := k; j < len(rows); j++ {
				rows[i][j].Sub(rows[i][j], new(big.Rat).Mul(f, rows[k][j]))
			}
		}
	}
	return det.Num()
}

// asWritten is the chain with rationals, just as the chapter writes it.
func asWritten(a, b []api.Int) [][]api.Int {
	power := func(q api.Rat, n int) api.Rat { z, _ := rat.Pow(q, n); return z }
	r := [][]api.Int{a, b}
	p := []api.Rat{{}, rat.Whole(integer.Of(-1))}
	d := func(i int) int { return poly.Deg(r[i-1]) - poly.Deg(r[i]) }
	lead := func(i int) api.Rat { return rat.Whole(integer.Neg(r[i][len(r[i])-1])) }
	for i := 1; poly.Deg(r[i]) > 0; i++ {
		by := power(rat.Whole(integer.Of(-1)), d(1)+1)
		if i > 1 {
			before := p[i-1]
			now := rat.Mul(power(lead(i-1), d(i-1)), power(before, 1-d(i-1)))
			p = append(p, now)
			by = rat.Mul(lead(i-1), power(now, d(i)))
		}
		_, rest, _ := poly.Pseudo(r[i-1], r[i])
		if len(rest) == 0 {
			break
		}
		var next []api.Int
		for _, c := range rest {
			q, _ := rat.Div(rat.Whole(c), by)
			next = append(next, q.Num)
		}
		r = append(r, next)
	}
	return r
}

func TestRests(t *testing.T) {
	for _, a := range polys() {
		for _, b := range polys() {
			l := Rests(a, b)
			var want [][]api.Int
			switch {
			case len(a) == 0 && len(b) == 0:
			case len(a) == 0:
				want = [][]api.Int{b}
			case len(b) == 0:
				want = [][]api.Int{a}
			case len(a) < len(b):
				want = asWritten(b, a)
			default:
				want = asWritten(a, b)
			}
			if !slices.EqualFunc(l, want, equal) {
				t.Fatal(a, b, l, want)
			}
		}
	}
}

func TestGcd(t *testing.T) {
	if g := Gcd(of(-2, 0, 2), of(4, 4)); !equal(g, of(2, 2)) {
		t.Fatal(g)
	}
	if len(Gcd(nil, nil)) != 0 || !equal(Gcd(of(6), of(-4)), of(2)) || !equal(Gcd(nil, of(4, -2)), of(-4, 2)) || !equal(Gcd(of(0, 2), of(4)), of(2)) {
		t.Fatal("edges")
	}
	l := polys()
	for _, a := range l {
		for _, b := range l {
			g := Gcd(a, b)
			if len(a) == 0 && len(b) == 0 {
				continue
			}
			x, isX := poly.Div(a, g)
			y, isY := poly.Div(b, g)
			if !isX || !isY || integer.Sign(g[len(g)-1]) != 1 || poly.Deg(Gcd(x, y)) != 0 || !poly.Right(g) {
				t.Fatal(a, b, g)
			}
			if c := of(-3, 1, 2); !equal(Gcd(poly.Mul(a, c), poly.Mul(b, c)), poly.Mul(g, c)) {
				t.Fatal("times a third one", a, b)
			}
			if r := Rests(a, b); len(a) > 0 && len(b) > 0 {
				last := r[len(r)-1]
				if poly.Deg(last) > 0 != (poly.Deg(g) > 0) || poly.Deg(g) > 0 && !equal(poly.Prim(last), poly.Prim(g)) {
					t.Fatal("the chain's last one", a, b)
				}
			}
		}
	}
}

func TestModularLook(t *testing.T) {
	// Alike, or with another lead, modulo the prime by which it is looked first.
	x, y := of(0, 1), of(-prime, 1)
	if apart(x, y) || !equal(Gcd(x, y), of(1)) || !equal(Gcd(poly.Mul(x, x), poly.Mul(x, y)), x) {
		t.Fatal("alike modulo the prime")
	}
	a, b := poly.Mul(of(1, prime), of(3, 1)), poly.Mul(of(1, prime), of(5, 0, 1))
	if apart(a, b) || !equal(Gcd(a, b), of(1, prime)) || !equal(Gcd(b, a), of(1, prime)) {
		t.Fatal("a lead that is 0 modulo the prime")
	}
	if !apart(of(-2, 0, 1), of(-3, 0, 1)) || apart(of(-2, 0, 1), of(-4, 0, 2)) || !apart(of(7), of(0, 1)) {
		t.Fatal("apart")
	}
}

func TestResultants(t *testing.T) {
	l := polys()
	for _, a := range l {
		for _, b := range l {
			r := Resultant(a, b)
			if integer.Text(r) != sylvester(a, b).String() || !integer.Right(r) {
				t.Fatal(a, b, integer.Text(r), sylvester(a, b))
			}
			if zero := integer.Sign(r) == 0; zero != (len(a) == 0 || len(b) == 0 || poly.Deg(Gcd(a, b)) > 0) {
				t.Fatal("0", a, b)
			}
			c := of(2, -1, 0, 3)
			if integer.Cmp(Resultant(poly.Mul(a, b), c), integer.Mul(Resultant(a, c), Resultant(b, c))) != 0 {
				t.Fatal("product", a, b)
			}
			if k := integer.Of(5); integer.Cmp(Resultant(poly.Shift(a, k), poly.Shift(b, k)), r) != 0 {
				t.Fatal("moved", a, b)
			}
		}
	}
	if r := Resultant(of(-2, 0, 1), of(-3, 1)); integer.Text(r) != "7" {
		t.Fatal(r)
	}
	if r := Resultant(of(5), of(7)); integer.Text(r) != "1" {
		t.Fatal(r)
	}
}

func TestDisc(t *testing.T) {
	for _, p := range [][]api.Int{nil, of(5)} {
		if d, err := Disc(p); err != api.ErrArg || integer.Sign(d) != 0 {
			t.Fatal(p)
		}
	}
	for _, x := range []struct {
		p []api.Int
		d string
	}{{of(1, 1, 1), "-3"}, {of(7, 3), "1"}, {of(-2, 0, 1), "8"}, {of(1, -2, 1), "0"}, {of(3, 5, 0, 2), "-1972"}} {
		if d, err := Disc(x.p); err != api.OK || integer.Text(d) != x.d {
			t.Fatal(x, integer.Text(d))
		}
	}
	for _, p := range polys() {
		d, err := Disc(p)
		if err == api.OK && (integer.Sign(d) == 0) != (poly.Deg(Free(p)) < poly.Deg(p)) {
			t.Fatal(p, d)
		}
	}
}

func TestFreeAndParts(t *testing.T) {
	if len(Free(nil)) != 0 || !equal(Free(of(-6)), of(1)) || Parts(nil) != nil || Parts(of(9)) != nil {
		t.Fatal("constants")
	}
	if l := Parts(of(0, 0, -1, 1)); len(l) != 2 || l[0].K != 1 || !equal(l[0].P, of(-1, 1)) || l[1].K != 2 || !equal(l[1].P, of(0, 1)) {
		t.Fatal(l)
	}
	power := func(p []api.Int, k int) []api.Int {
		z := of(1)
		for range k {
			z = poly.Mul(z, p)
		}
		return z
	}
	for _, a := range polys() {
		for _, b := range polys() {
			p := poly.Mul(poly.Scale(power(a, 3), integer.Of(-2)), poly.Mul(b, of(0, 0, 1)))
			if len(p) == 0 {
				continue
			}
			f := Free(p)
			if poly.Deg(Gcd(f, poly.Diff(f))) > 0 || integer.Sign(f[len(f)-1]) != 1 {
				t.Fatal("Free", a, b, f)
			}
			if _, is := poly.Div(poly.Prim(p), f); !is {
				t.Fatal("Free divides", a, b)
			}
			if _, is := poly.Div(power(f, poly.Deg(p)), poly.Prim(p)); poly.Deg(p) < 9 && !is {
				t.Fatal("a power of Free", a, b)
			}
			all, last := of(1), 0
			for i, x := range Parts(p) {
				if x.K <= last || poly.Deg(x.P) < 1 || !equal(poly.Prim(x.P), x.P) || poly.Deg(Free(x.P)) != poly.Deg(x.P) {
					t.Fatal("Parts", a, b, x)
				}
				for _, y := range Parts(p)[:i] {
					if poly.Deg(Gcd(x.P, y.P)) > 0 {
						t.Fatal("in common", a, b)
					}
				}
				all, last = poly.Mul(all, power(x.P, x.K)), x.K
			}
			if !equal(all, poly.Prim(p)) {
				t.Fatal("put together", a, b)
			}
		}
	}
}
