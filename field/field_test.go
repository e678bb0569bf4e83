package field

import (
	"reflect"
	"testing"

	"ziggurat/alg"
	"ziggurat/api"
	"ziggurat/integer"
	"ziggurat/poly"
	"ziggurat/rat"
)

func of(l ...int64) []api.Int {
	var p []api.Int
	for _, n := range l {
		p = append(p, integer.Of(n))
	}
	return poly.Make(p)
}

func frac(n, d int64) api.Rat {
	q, _ := rat.Make(integer.Of(n), integer.Of(d))
	return q
}

// numbers have degrees up to 3.
func numbers() []api.Alg {
	return []api.Alg{
		alg.Of(frac(0, 1)), alg.Of(frac(1, 1)), alg.Of(frac(-2, 3)), alg.Of(frac(5, 1)),
		{P: of(-2, 0, 1)}, {P: of(-2, 0, 1), K: 1}, {P: of(-3, 0, 1), K: 1}, {P: of(-1, -1, 1)}, {P: of(-1, -1, 1), K: 1},
		{P: of(-2, 0, 0, 1)}, {P: of(1, -3, 0, 1), K: 1}, {P: of(3, -7, 0, 2)}, {P: of(1, -3, 0, 1), K: 2},
	}
}

func is(t *testing.T, what string, a api.Alg, err api.Errno, want api.Alg) {
	t.Helper()
	if err != api.OK || !alg.Right(a) || !alg.Same(a, want) {
		t.Fatal(what, a, err, want)
	}
}

func fails(t *testing.T, what string, a api.Alg, err, want api.Errno) {
	t.Helper()
	if err != want || !reflect.DeepEqual(a, api.Alg{}) {
		t.Fatal(what, a, err, want)
	}
}

func TestExamples(t *testing.T) {
	two, three := api.Alg{P: of(-2, 0, 1), K: 1}, api.Alg{P: of(-3, 0, 1), K: 1}
	s, err := Add(two, three)
	is(t, "sqrt 2 + sqrt 3", s, err, api.Alg{P: of(1, 0, -10, 0, 1), K: 3})
	s, err = Sub(two, three)
	is(t, "sqrt 2 - sqrt 3", s, err, api.Alg{P: of(1, 0, -10, 0, 1), K: 1})
	s, err = Mul(two, two)
	is(t, "sqrt 2 squared", s, err, alg.Of(frac(2, 1)))
	s, err = Root(alg.Of(frac(4, 1)), 4)
	is(t, "fourth root of 4", s, err, two)
	s, err = Inv(api.Alg{P: of(-1, -1, 1), K: 1})
	is(t, "golden mean", s, err, api.Alg{P: of(-1, 1, 1), K: 1})
	s, err = Div(two, three)
	is(t, "sqrt 2/3", s, err, api.Alg{P: of(-2, 0, 3), K: 1})
	s, err = Pow(two, -3)
	is(t, "power -3", s, err, api.Alg{P: of(-1, 0, 8), K: 1})
}

func TestErrors(t *testing.T) {
	zero, two := alg.Of(frac(0, 1)), api.Alg{P: of(-2, 0, 1), K: 1}
	four, long := api.Alg{P: of(1, 0, -10, 0, 1), K: 3}, api.Alg{P: of(-2, 0, 0, 0, 0, 0, 0, 0, 0, 0, 0, 0, 0, 1)}
	a, err := Inv(zero)
	fails(t, "Inv", a, err, api.ErrZero)
	a, err = Div(long, zero)
	fails(t, "Div by 0", a, err, api.ErrZero)
	for _, f := range []func(a, b api.Alg) (api.Alg, api.Errno){Add, Sub, Mul, Div} {
		a, err = f(four, four)
		fails(t, "16", a, err, api.ErrBig)
		a, err = f(long, alg.Of(frac(1, 1)))
		fails(t, "13", a, err, api.ErrBig)
	}
	a, err = Mul(long, zero)
	fails(t, "13 times 0", a, err, api.ErrBig)
	for _, k := range []int{0, 9, -1} {
		a, err = Root(Neg(two), k)
		fails(t, "Root", a, err, api.ErrArg)
	}
	a, err = Root(Neg(four), 4)
	fails(t, "below 0", a, err, api.ErrDomain)
	a, err = Root(four, 4)
	fails(t, "16", a, err, api.ErrBig)
	for _, n := range []int{65, -65} {
		a, err = Pow(zero, n)
		fails(t, "Pow", a, err, api.ErrArg)
	}
	a, err = Pow(zero, -1)
	fails(t, "0", a, err, api.ErrZero)
	a, err = Pow(long, 0)
	fails(t, "13", a, err, api.ErrBig)
}

func TestField(t *testing.T) {
	l := numbers()
	c := api.Alg{P: of(-2, 0, 1), K: 1}
	for _, a := range l {
		if n := Neg(a); !alg.Right(n) || !alg.Same(Neg(n), a) || alg.Sign(n) != -alg.Sign(a) {
			t.Fatal("Neg", a)
		}
		for _, b := range l {
			s, err := Add(a, b)
			turned, err2 := Add(b, a)
			is(t, "turned", turned, err2, s)
			back, err2 := Sub(s, b)
			if err2 == api.OK {
				is(t, "taken away", back, err2, a)
			}
			p, err2 := Mul(a, b)
			turned, err3 := Mul(b, a)
			is(t, "turned", turned, err3, p)
			if err != api.OK || err2 != api.OK {
				t.Fatal(a, b)
			}
			if back, err := Div(p, b); err == api.OK {
				is(t, "divided", back, err, a)
			}
			if alg.Sign(p) != alg.Sign(a)*alg.Sign(b) || alg.Cmp(s, a) != alg.Sign(b) {
				t.Fatal("order", a, b)
			}
			if poly.Deg(a.P)*poly.Deg(b.P) > 4 {
				continue
			}
			left, err := Mul(s, c)
			x, _ := Mul(a, c)
			y, _ := Mul(b, c)
			right, err2 := Add(x, y)
			if err == api.OK && err2 == api.OK {
				is(t, "spread", left, err, right)
			}
		}
	}
}

func TestRationals(t *testing.T) {
	var l []api.Rat
	for _, x := range [][2]int64{{0, 1}, {1, 1}, {-1, 2}, {7, 3}, {-12, 5}} {
		l = append(l, frac(x[0], x[1]))
	}
	for _, a := range l {
		for _, b := range l {
			s, err := Add(alg.Of(a), alg.Of(b))
			is(t, "Add", s, err, alg.Of(rat.Add(a, b)))
			s, err = Sub(alg.Of(a), alg.Of(b))
			is(t, "Sub", s, err, alg.Of(rat.Sub(a, b)))
			s, err = Mul(alg.Of(a), alg.Of(b))
			is(t, "Mul", s, err, alg.Of(rat.Mul(a, b)))
			if q, err := rat.Div(a, b); err == api.OK {
				s, err = Div(alg.Of(a), alg.Of(b))
				is(t, "Div", s, err, alg.Of(q))
			}
		}
		for _, n := range []int{-64, -3, -1, 0, 1, 2, 63} {
			if q, err := rat.Pow(a, n); err == api.OK {
				s, err := Pow(alg.Of(a), n)
				is(t, "Pow", s, err, alg.Of(q))
			}
		}
	}
}

func TestPowersAndRoots(t *testing.T) {
	for _, a := range numbers() {
		want := one()
		for n := range 7 {
			p, err := Pow(a, n)
			is(t, "power", p, err, want)
			if want, err = Mul(want, a); err != api.OK {
				break
			}
		}
		for k := 1; k <= 8; k++ {
			r, err := Root(a, k)
			if err != api.OK {
				if (k%2 == 1 || alg.Sign(a) >= 0) && poly.Deg(a.P)*k <= 12 {
					t.Fatal(a, k, err)
				}
				continue
			}
			p, err := Pow(r, k)
			if is(t, "a root's power", p, err, a); k%2 == 0 && alg.Sign(r) < 0 {
				t.Fatal("below 0", a, k)
			}
			p, _ = Pow(a, k)
			if back, err := Root(p, k); err == api.OK {
				if k%2 == 0 && alg.Sign(a) < 0 {
					is(t, "a power's root", back, err, Neg(a))
				} else {
					is(t, "a power's root", back, err, a)
				}
			}
		}
		if alg.Sign(a) != 0 {
			p, err := Pow(a, -5)
			if err != api.OK {
				t.Fatal(err)
			}
			q, _ := Pow(a, 5)
			i, err := Inv(q)
			is(t, "below 0", p, err, i)
		}
	}
	a := api.Alg{P: of(-5, 1, 0, 3, 0, 0, 0, 0, 0, 0, 0, 0, 2)}
	p, err := Pow(a, 64)
	if err != api.OK || !alg.Right(p) || alg.Sign(p) != 1 {
		t.Fatal("degree 12, power 64", p, err)
	}
}
