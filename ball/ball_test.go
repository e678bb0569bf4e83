package ball

import (
	"math/rand"
	"reflect"
	"testing"

	"ziggurat/api"
	"ziggurat/dyad"
	"ziggurat/integer"
	"ziggurat/rat"
)

func frac(n, d int64) api.Rat {
	q, _ := rat.Make(integer.Of(n), integer.Of(d))
	return q
}

// of is the ball of a middle and a radius, times 2^-e.
func of(mid, rad int64, e int) api.Ball {
	return api.Ball{Mid: dyad.Make(integer.Of(mid), -e), Rad: dyad.Make(integer.Of(rad), -e)}
}

func balls() []api.Ball {
	r := rand.New(rand.NewSource(1))
	l := []api.Ball{of(0, 0, 0), of(1, 0, 0), of(-1, 0, 0), of(1, 1, 0), of(0, 1, 0), of(2, 1, 0), of(-3, 1, 2), of(2, 1, 1), of(9, 0, 2), of(2, 0, 1)}
	for range 10 {
		l = append(l, of(r.Int63n(4000)-2000, r.Int63n(300), r.Intn(12)))
	}
	return l
}

// points are rationals that lie in b: its ends, and three between.
func points(b api.Ball) []api.Rat {
	var l []api.Rat
	for i := int64(-2); i <= 2; i++ {
		l = append(l, rat.Add(dyad.Rat(b.Mid), rat.Mul(dyad.Rat(b.Rad), frac(i, 2))))
	}
	return l
}

func low(b api.Ball) api.Rat  { return rat.Sub(dyad.Rat(b.Mid), dyad.Rat(b.Rad)) }
func high(b api.Ball) api.Rat { return rat.Add(dyad.Rat(b.Mid), dyad.Rat(b.Rad)) }
func bits(n int) api.Rat      { return dyad.Rat(dyad.Make(integer.Of(1), -n)) }
func is(t *testing.T, what string, got, want api.Ball) {
	t.Helper()
	if !Right(got) || !reflect.DeepEqual(got, want) {
		t.Fatal(what, got, want)
	}
}

func TestRightHasIn(t *testing.T) {
	if Right(of(1, -1, 0)) || Right(api.Ball{Mid: api.Dyad{Exp: 1}}) || Right(api.Ball{Rad: api.Dyad{Exp: 1}}) || !Right(api.Ball{}) {
		t.Fatal("Right")
	}
	b := of(3, 1, 1) // from 1 to 2
	for _, x := range []struct {
		q   api.Rat
		has bool
	}{{frac(1, 1), true}, {frac(2, 1), true}, {frac(999, 1000), false}, {frac(2001, 1000), false}, {frac(3, 2), true}} {
		if Has(b, x.q) != x.has {
			t.Fatal(x)
		}
	}
	if !In(b, b) || !In(of(3, 0, 1), b) || In(b, of(3, 0, 1)) || !In(of(1, 0, 0), b) || In(of(2, 1, 0), b) || In(of(1, 1, 1), b) {
		t.Fatal("In")
	}
}

func TestExamples(t *testing.T) {
	is(t, "Of", Of(frac(1, 3), 2), of(1, 1, 2))
	is(t, "Mul", Mul(of(2, 1, 1), of(2, 1, 0)), of(4, 5, 1))
	q, err := Div(of(1, 0, 0), of(3, 1, 0), 3)
	is(t, "Div", q, of(3, 1, 3))
	r, err2 := Sqrt(of(2, 0, 0), 1)
	is(t, "Sqrt", r, of(5, 1, 2))
	r, err3 := Sqrt(of(1, 3, 0), 0)
	is(t, "Sqrt from below 0", r, of(1, 1, 0))
	if err != api.OK || err2 != api.OK || err3 != api.OK {
		t.Fatal(err, err2, err3)
	}
}

func TestErrors(t *testing.T) {
	for _, b := range []api.Ball{of(0, 0, 0), of(1, 1, 0), of(-1, 1, 0), of(1, 5, 3)} {
		if q, err := Div(of(1, 0, 0), b, 5); err != api.ErrZero || !reflect.DeepEqual(q, api.Ball{}) {
			t.Fatal(b)
		}
	}
	if q, err := Sqrt(of(-2, 1, 0), 5); err != api.ErrDomain || !reflect.DeepEqual(q, api.Ball{}) {
		t.Fatal("Sqrt")
	}
	if q, err := Sqrt(of(-1, 1, 0), 5); err != api.OK || !reflect.DeepEqual(q, api.Ball{}) {
		t.Fatal("Sqrt up to 0", q, err)
	}
}

func TestOfAndTrim(t *testing.T) {
	for _, q := range []api.Rat{frac(1, 3), frac(-2, 7), frac(5, 8), frac(0, 1), frac(1000, 3)} {
		for n := range 8 {
			b := Of(q, n)
			mid, _ := dyad.Cut(q, n, api.Near)
			if !Right(b) || !Has(b, q) || dyad.Cmp(b.Mid, mid) != 0 || rat.Cmp(dyad.Rat(b.Rad), bits(n)) > 0 {
				t.Fatal(rat.Text(q), n, b)
			}
		}
	}
	for _, a := range balls() {
		for n := range 12 {
			b := Trim(a, n)
			grown := rat.Sub(dyad.Rat(b.Rad), dyad.Rat(a.Rad))
			if !Right(b) || !In(a, b) || rat.Cmp(grown, rat.Mul(bits(n), frac(3, 2))) > 0 {
				t.Fatal(a, n, b)
			}
			is(t, "trimmed again", Trim(b, n), b)
		}
	}
	is(t, "nothing to trim", Trim(of(5, 1, 2), 2), of(5, 1, 2))
}

func TestHeld(t *testing.T) {
	for _, a := range balls() {
		is(t, "Neg", Neg(a), api.Ball{Mid: dyad.Neg(a.Mid), Rad: a.Rad})
		for _, b := range balls() {
			s, d, p := Add(a, b), Sub(a, b), Mul(a, b)
			if rat.Cmp(low(s), rat.Add(low(a), low(b))) != 0 || rat.Cmp(high(d), rat.Sub(high(a), low(b))) != 0 || !Right(s) || !Right(d) || !Right(p) {
				t.Fatal("sums", a, b)
			}
			q, err := Div(a, b, 7)
			for _, x := range points(a) {
				for _, y := range points(b) {
					if !Has(s, rat.Add(x, y)) || !Has(d, rat.Sub(x, y)) || !Has(p, rat.Mul(x, y)) {
						t.Fatal("held", a, b)
					}
					if z, _ := rat.Div(x, y); err == api.OK && !Has(q, z) {
						t.Fatal("quotient held", a, b)
					}
				}
			}
			wide := api.Ball{Mid: a.Mid, Rad: dyad.Add(a.Rad, dyad.Make(integer.Of(1), -3))}
			if !In(p, Mul(wide, b)) || !In(s, Add(wide, b)) || !In(d, Sub(wide, b)) {
				t.Fatal("wider", a, b)
			}
			if z, _ := Div(wide, b, 7); err == api.OK && !In(q, z) {
				t.Fatal("wider quotient", a, b)
			}
		}
	}
}

func TestRootsAreTight(t *testing.T) {
	square := func(q api.Rat) api.Rat { return rat.Mul(q, q) }
	for _, a := range balls() {
		for _, n := range []int{0, 1, 3, 20} {
			r, err := Sqrt(a, n)
			if rat.Sign(high(a)) < 0 {
				continue
			}
			x, y := low(r), high(r)
			from := low(a)
			if rat.Sign(from) < 0 {
				from = frac(0, 1)
			}
			if err != api.OK || !Right(r) || rat.Cmp(square(x), from) > 0 || rat.Cmp(square(rat.Add(x, bits(n))), from) <= 0 || rat.Cmp(square(y), high(a)) < 0 || rat.Sign(y) > 0 && rat.Cmp(square(rat.Sub(y, bits(n))), high(a)) >= 0 {
				t.Fatal(a, n, r)
			}
		}
	}
}

func TestSign(t *testing.T) {
	for _, x := range []struct {
		b    api.Ball
		sign int
		is   bool
	}{{of(3, 1, 0), 1, true}, {of(-3, 1, 0), -1, true}, {of(0, 0, 0), 0, true}, {of(1, 1, 0), 0, false}, {of(-1, 1, 0), 0, false}, {of(0, 5, 0), 0, false}} {
		if s, is := Sign(x.b); s != x.sign || is != x.is {
			t.Fatal(x, s, is)
		}
	}
}
