package alg

import (
	"math/rand"
	"reflect"
	"slices"
	"testing"

	"ziggurat/api"
	"ziggurat/dyad"
	"ziggurat/integer"
	"ziggurat/poly"
	"ziggurat/rat"
	"ziggurat/sturm"
)

func of(l ...int64) []api.Int {
	var p []api.Int
	for _, n := range l {
		p = append(p, integer.Of(n))
	}
	return poly.Make(p)
}

func frac(n, d int64) api.Rat {
	q, _ := rat.Make(integer.Of(n), integer.Of(d))
	return q
}

func product(l ...[]api.Int) []api.Int {
	z := of(1)
	for _, p := range l {
		z = poly.Mul(z, p)
	}
	return z
}

func polys() [][]api.Int {
	r := rand.New(rand.NewSource(1))
	l := [][]api.Int{of(5), of(0, -2, 0, 1), of(1, 0, -10, 0, 1), product(of(-2, 0, 1), of(-1, 2), of(-2, 0, 1), of(-3, 0, 0, 1)), of(-1, -1, 1), of(1, -3, 0, 1), product(of(-200000, 0, 100001), of(-2, 0, 1), of(-17, 12))}
	for n := range 8 {
		p := make([]api.Int, 2+n)
		for i := range p {
			p[i] = integer.Of(r.Int63n(21) - 10)
		}
		if p = poly.Make(p); len(p) > 0 {
			l = append(l, p)
		}
	}
	return l
}

func roots(t *testing.T, p []api.Int) []api.Alg {
	t.Helper()
	l, err := Roots(p)
	if err != api.OK {
		t.Fatal(p, err)
	}
	return l
}

func numbers(t *testing.T) []api.Alg {
	var l []api.Alg
	for _, p := range polys() {
		for _, a := range roots(t, p) {
			if !slices.ContainsFunc(l, func(b api.Alg) bool { return Same(a, b) }) {
				l = append(l, a)
			}
		}
	}
	return append(l, Of(frac(3, 7)), Of(frac(0, 1)), Of(frac(-5, 1)))
}

func TestRight(t *testing.T) {
	for i, a := range []api.Alg{{}, {P: of(5)}, {P: of(-2, 0, 1), K: 2}, {P: of(-2, 0, 1), K: -1}, {P: of(2, 0, -1)}, {P: of(-4, 0, 2)}, {P: of(-4, 0, 1)}, {P: of(1, 0, 1)}, {P: []api.Int{integer.Of(1), {}}}, {P: of(1, -2, 1)}} {
		if Right(a) {
			t.Fatal(i)
		}
	}
	for _, a := range numbers(t) {
		if !Right(a) {
			t.Fatal(a)
		}
	}
	a, b := api.Alg{P: of(-2, 0, 1)}, api.Alg{P: of(-2, 0, 1), K: 1}
	if Same(a, b) || !Same(a, a) || Same(a, api.Alg{P: of(-3, 0, 1)}) || !Same(api.Alg{P: of(4, 2)}, api.Alg{P: of(4, 2)}) {
		t.Fatal("Same")
	}
}

func TestRationals(t *testing.T) {
	for _, q := range []api.Rat{frac(0, 1), frac(-3, 2), frac(7, 1), frac(1, 1000)} {
		a := Of(q)
		if back, is := Rat(a); !Right(a) || !is || rat.Cmp(back, q) != 0 || Sign(a) != rat.Sign(q) || CmpRat(a, q) != 0 {
			t.Fatal(rat.Text(q))
		}
		for _, x := range []api.Rat{frac(0, 1), frac(-3, 2), frac(1, 999)} {
			if Cmp(a, Of(x)) != rat.Cmp(q, x) || CmpRat(a, x) != rat.Cmp(q, x) {
				t.Fatal("order", rat.Text(q), rat.Text(x))
			}
		}
	}
	if q, is := Rat(api.Alg{P: of(-2, 0, 1)}); is || !reflect.DeepEqual(q, api.Rat{}) {
		t.Fatal("sqrt 2")
	}
}

func TestRoots(t *testing.T) {
	if l, err := Roots(nil); err != api.ErrZero || l != nil {
		t.Fatal("0")
	}
	long := make([]api.Int, 42)
	long[41] = integer.Of(1)
	if l, err := Roots(long); err != api.ErrBig || l != nil {
		t.Fatal("degree 41")
	}
	l := roots(t, of(0, -2, 0, 1))
	want := []api.Alg{{P: of(-2, 0, 1)}, {P: of(0, 1)}, {P: of(-2, 0, 1), K: 1}}
	if !slices.EqualFunc(l, want, Same) {
		t.Fatal(l)
	}
	for _, p := range polys() {
		l := roots(t, p)
		if len(l) != sturm.All(p) {
			t.Fatal(p, l)
		}
		for i, a := range l {
			if At(p, a) != 0 || !Right(a) || i > 0 && Cmp(l[i-1], a) != -1 {
				t.Fatal(p, a)
			}
		}
		for _, q := range polys() {
			both := roots(t, poly.Mul(p, q))
			for _, a := range both {
				in := func(l []api.Alg) bool { return slices.ContainsFunc(l, func(b api.Alg) bool { return Same(a, b) }) }
				if !in(l) && !in(roots(t, q)) {
					t.Fatal("product", p, q)
				}
			}
			if len(both) < len(l) {
				t.Fatal("product", p, q)
			}
		}
		moved := roots(t, poly.Shift(p, integer.Of(-4)))
		for i, a := range l {
			up := integer.Add(Floor(a, 50), integer.Shift(integer.Of(4), 50))
			if len(moved) != len(l) || integer.Cmp(Floor(moved[i], 50), up) != 0 {
				t.Fatal("moved", p)
			}
		}
	}
}

func TestOrderAndFloors(t *testing.T) {
	l := numbers(t)
	for _, a := range l {
		fine := Floor(a, 100)
		lo, hi := dyad.Rat(dyad.Make(fine, -100)), dyad.Rat(dyad.Make(integer.Add(fine, integer.Of(1)), -100))
		if CmpRat(a, lo) < 0 || CmpRat(a, hi) >= 0 {
			t.Fatal("floor", a)
		}
		for _, n := range []int{0, 1, 10, 99} {
			if integer.Cmp(Floor(a, n), integer.Shift(fine, n-100)) != 0 {
				t.Fatal("coarser", a, n)
			}
		}
		if Sign(a) != CmpRat(a, frac(0, 1)) {
			t.Fatal("Sign", a)
		}
		for _, b := range l {
			c := Cmp(a, b)
			if c != -Cmp(b, a) || (c == 0) != Same(a, b) || c != 0 && c != integer.Cmp(Floor(a, 200), Floor(b, 200)) {
				t.Fatal("order", a, b)
			}
		}
	}
	if f := Floor(api.Alg{P: of(-2, 0, 1), K: 1}, 10); integer.Text(f) != "1448" {
		t.Fatal(f)
	}
	// sqrt 2 and a convergent whose distance is below 2^-400.
	p, q := integer.Of(1), integer.Of(1)
	for range 160 {
		p, q = integer.Add(p, integer.Shift(q, 1)), integer.Add(p, q)
	}
	near, _ := rat.Make(p, q)
	s := api.Alg{P: of(-2, 0, 1), K: 1}
	want := poly.Sign(of(2, 0, -1), near)
	if CmpRat(s, near) != want || Cmp(Of(near), s) != -want {
		t.Fatal("near")
	}
}

func TestSigns(t *testing.T) {
	if At(of(-3, 0, 1), api.Alg{P: of(-2, 0, 1), K: 1}) != -1 || At(nil, Of(frac(1, 2))) != 0 || At(nil, api.Alg{P: of(-2, 0, 1)}) != 0 || At(of(-7), api.Alg{P: of(-2, 0, 1)}) != -1 {
		t.Fatal("examples")
	}
	for _, a := range numbers(t)[:20] {
		for _, p := range polys() {
			for _, q := range polys()[:5] {
				if At(poly.Mul(p, q), a) != At(p, a)*At(q, a) {
					t.Fatal("product", a, p, q)
				}
			}
			if _, is := poly.Div(poly.Prim(p), a.P); is != (At(p, a) == 0) {
				t.Fatal("0", a, p)
			}
		}
		x := of(0, 1)
		if At(x, a) != Sign(a) || At(of(-1, 1), a) != CmpRat(a, frac(1, 1)) {
			t.Fatal("x", a)
		}
	}
}
