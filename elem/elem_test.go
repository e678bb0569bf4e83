package elem

import (
	"math"
	"math/big"
	"math/rand"
	"reflect"
	"testing"

	"ziggurat/api"
	"ziggurat/integer"
	"ziggurat/rat"
)

func frac(n, d int64) api.Rat {
	q, _ := rat.Make(integer.Of(n), integer.Of(d))
	return q
}

func must(t *testing.T, f int, x api.Rat, n int) api.Int {
	t.Helper()
	v, err := Floor(f, x, n)
	if err != api.OK || !integer.Right(v) {
		t.Fatal(f, rat.Text(x), n, err)
	}
	return v
}

func float(x api.Rat) float64 {
	q, _ := new(big.Rat).SetString(rat.Text(x))
	f, _ := q.Float64()
	return f
}

var library = map[int]func(float64) float64{api.Exp: math.Exp, api.Log: math.Log, api.Sin: math.Sin, api.Cos: math.Cos, api.Tan: math.Tan, api.Atan: math.Atan}

func arguments() []api.Rat {
	r := rand.New(rand.NewSource(1))
	l := []api.Rat{frac(1, 1), frac(-1, 1), frac(1, 2), frac(3, 1), frac(-7, 3), frac(22, 7), frac(100, 1), frac(1, 1000000), frac(-1, 999), frac(999, 1000), frac(30, 1), frac(-20, 1), frac(11, 7), frac(1<<40, 3), frac(2, 1), frac(3, 4)}
	for range 25 {
		l = append(l, frac(r.Int63n(4000)-2000, r.Int63n(200)+1))
	}
	return l
}

func TestFloorAgainstFloats(t *testing.T) {
	for f, of := range library {
		for _, x := range arguments() {
			if f == api.Log && rat.Sign(x) < 1 || f == api.Exp && math.Abs(float(x)) > 40 || f >= api.Sin && f <= api.Tan && math.Abs(float(x)) > 1000 {
				continue
			}
			v := must(t, f, x, 60)
			got, _ := new(big.Float).SetMantExp(new(big.Float).SetInt(bigOf(v)), -60).Float64()
			want := of(float(x))
			if math.Abs(got-want) > 1e-11*(1+math.Abs(want)) {
				t.Fatal(f, rat.Text(x), got, want)
			}
		}
	}
}

func bigOf(a api.Int) *big.Int {
	z, _ := new(big.Int).SetString(integer.Text(a), 10)
	return z
}

func TestFiner(t *testing.T) {
	for f := range library {
		for _, x := range arguments() {
			if f == api.Log && rat.Sign(x) < 1 || f == api.Exp && math.Abs(float(x)) > 4096 {
				continue
			}
			fine := must(t, f, x, 700)
			for _, n := range []int{0, 1, 31, 64, 250, 699} {
				if integer.Cmp(must(t, f, x, n), integer.Shift(fine, n-700)) != 0 {
					t.Fatal(f, rat.Text(x), n)
				}
			}
		}
	}
	if integer.Text(Pi(8)) != "804" || integer.Text(Pi(0)) != "3" {
		t.Fatal("pi")
	}
	pi := Pi(5000)
	for n := range 200 {
		if integer.Cmp(Pi(n), integer.Shift(pi, n-5000)) != 0 {
			t.Fatal("pi", n)
		}
	}
}

func TestErrors(t *testing.T) {
	fails := func(f int, x api.Rat, want api.Errno) {
		t.Helper()
		if v, err := Floor(f, x, 10); err != want || !reflect.DeepEqual(v, api.Int{}) {
			t.Fatal(f, rat.Text(x), v, err)
		}
	}
	for _, f := range []int{0, -1, 7, 99} {
		fails(f, frac(1, 1), api.ErrArg)
		if q, is := Exact(f, frac(0, 1)); is || !reflect.DeepEqual(q, api.Rat{}) {
			t.Fatal("Exact", f)
		}
	}
	fails(api.Log, frac(0, 1), api.ErrDomain)
	fails(api.Log, frac(-3, 1), api.ErrDomain)
	fails(api.Exp, rat.Add(frac(4096, 1), frac(1, 1000)), api.ErrBig)
	fails(api.Exp, frac(-4097, 1), api.ErrBig)
	top := rat.Whole(integer.Shift(integer.Of(1), 64))
	for _, f := range []int{api.Sin, api.Cos, api.Tan} {
		fails(f, rat.Add(top, frac(1, 7)), api.ErrBig)
		fails(f, rat.Neg(rat.Add(top, frac(1, 7))), api.ErrBig)
		must(t, f, top, 100)
	}
	if v := must(t, api.Exp, frac(-4096, 1), 100); integer.Sign(v) != 0 {
		t.Fatal(v)
	}
	must(t, api.Exp, frac(4096, 1), 100)
	must(t, api.Atan, rat.Whole(integer.Shift(integer.Of(-1), 5000)), 100)
}

func TestExact(t *testing.T) {
	for f := range library {
		for _, x := range []api.Rat{frac(0, 1), frac(1, 1), frac(1, 2), frac(-1, 1)} {
			q, is := Exact(f, x)
			want := f == api.Log && rat.Text(x) == "1" || f != api.Log && rat.Sign(x) == 0
			value := "0"
			if f == api.Exp || f == api.Cos {
				value = "1"
			}
			if is != want || is && rat.Text(q) != value || !is && !reflect.DeepEqual(q, api.Rat{}) {
				t.Fatal(f, rat.Text(x), q, is)
			}
			if is && integer.Cmp(must(t, f, x, 77), integer.Shift(q.Num, 77)) != 0 {
				t.Fatal("Floor", f)
			}
		}
	}
}

// value is a rational less than 2^-n below the value.
func value(t *testing.T, f int, x api.Rat, n int) api.Rat {
	q, _ := rat.Make(must(t, f, x, n), integer.Shift(integer.Of(1), n))
	return q
}

func TestEquations(t *testing.T) {
	small := rat.Mul(frac(1, 1<<60), rat.Mul(frac(1, 1<<60), frac(1, 1<<60)))
	near := func(what string, x, a, b api.Rat) {
		t.Helper()
		d := rat.Sub(a, b)
		if rat.Sign(d) < 0 {
			d = rat.Neg(d)
		}
		if rat.Cmp(d, small) > 0 {
			t.Fatal(what, rat.Text(x))
		}
	}
	one := frac(1, 1)
	for _, x := range arguments() {
		if math.Abs(float(x)) > 50 {
			continue
		}
		e, y := value(t, api.Exp, x, 400), frac(3, 7)
		near("exp of a sum", x, rat.Mul(e, value(t, api.Exp, y, 400)), value(t, api.Exp, rat.Add(x, y), 400))
		s, c := value(t, api.Sin, x, 400), value(t, api.Cos, x, 400)
		near("squares", x, rat.Add(rat.Mul(s, s), rat.Mul(c, c)), one)
		near("tan", x, rat.Mul(value(t, api.Tan, x, 400), c), s)
		near("log of exp", x, value(t, api.Log, value(t, api.Exp, x, 500), 300), x)
		if rat.Sign(x) > 0 {
			near("exp of log", x, value(t, api.Exp, value(t, api.Log, x, 400), 300), x)
			near("log of a product", x, value(t, api.Log, rat.Mul(x, y), 300), rat.Add(value(t, api.Log, x, 300), value(t, api.Log, y, 300)))
		}
		near("tan of atan", x, value(t, api.Tan, value(t, api.Atan, x, 400), 300), x)
		for f := range library {
			if f == api.Exp || f == api.Log {
				continue
			}
			a, b := must(t, f, x, 90), must(t, f, rat.Neg(x), 90)
			odd := integer.Sign(integer.Add(integer.Add(a, b), integer.Of(1))) == 0
			if f == api.Cos && integer.Cmp(a, b) != 0 || f != api.Cos && !odd {
				t.Fatal("turned", f, rat.Text(x))
			}
		}
	}
	quarter := integer.Shift(must(t, api.Atan, one, 3000), 2)
	if d := integer.Sub(Pi(3000), quarter); integer.Sign(d) < 0 || integer.Cmp(d, integer.Of(3)) > 0 {
		t.Fatal("four times Atan of 1")
	}
}

func TestRising(t *testing.T) {
	for i := int64(-40); i < 40; i++ {
		for _, f := range []int{api.Exp, api.Log, api.Atan} {
			if f == api.Log && i < 1 {
				continue
			}
			if integer.Cmp(must(t, f, frac(i, 7), 60), must(t, f, frac(i+1, 7), 60)) >= 0 {
				t.Fatal(f, i)
			}
		}
	}
}

func TestBesideRationalValues(t *testing.T) {
	for _, e := range []int{3, 10, 60, 130, 5000, 100000} {
		for _, s := range []int64{1, -1} {
			tiny, _ := rat.Make(integer.Of(s), integer.Shift(integer.Of(1), e))
			for _, n := range []int{0, 1, 8, 59, 60, 128, 200} {
				below := integer.Of(min(s, 0))
				if e > n {
					unit := integer.Shift(integer.Of(1), n)
					if got := must(t, api.Sin, tiny, n); integer.Cmp(got, below) != 0 {
						t.Fatal("Sin", e, s, n, got)
					}
					if got := must(t, api.Atan, tiny, n); integer.Cmp(got, below) != 0 {
						t.Fatal("Atan", e, s, n, got)
					}
					if got := must(t, api.Cos, tiny, n); integer.Cmp(got, integer.Sub(unit, integer.Of(1))) != 0 {
						t.Fatal("Cos", e, s, n, got)
					}
					if e > n+1 {
						if got := must(t, api.Exp, tiny, n); integer.Cmp(got, integer.Add(unit, below)) != 0 {
							t.Fatal("Exp", e, s, n, got)
						}
						if got := must(t, api.Log, rat.Add(frac(1, 1), tiny), n); integer.Cmp(got, below) != 0 {
							t.Fatal("Log", e, s, n, got)
						}
						if got := must(t, api.Tan, tiny, n); integer.Cmp(got, below) != 0 {
							t.Fatal("Tan", e, s, n, got)
						}
					}
				}
			}
		}
	}
	// Just below a multiple of 2^-n by some 2^-120.
	tiny, _ := rat.Make(integer.Of(1), integer.Shift(integer.Of(1), 40))
	if got := must(t, api.Sin, tiny, 100); integer.Cmp(got, integer.Sub(integer.Shift(integer.Of(1), 60), integer.Of(1))) != 0 {
		t.Fatal("Sin", got)
	}
}

func TestLong(t *testing.T) {
	for f := range library {

		a, b := must(t, f, frac(5, 7), 65536), must(t, f, frac(5, 7), 20000)
		if integer.Cmp(integer.Shift(a, 20000-65536), b) != 0 {
			t.Fatal(f)
		}
	}

	if integer.Cmp(integer.Shift(Pi(65536), -45536), Pi(20000)) != 0 {
		t.Fatal("pi")
	}
}

func TestPi(t *testing.T) {
	for _, n := range []int{2, 30, 64, 500} {
		unit := integer.Shift(integer.Of(1), n)
		below, _ := rat.Make(Pi(n), unit)
		above, _ := rat.Make(integer.Add(Pi(n), integer.Of(1)), unit)
		if integer.Sign(must(t, api.Sin, below, 2*n+9)) != 1 || integer.Sign(must(t, api.Sin, above, 2*n+9)) != -1 {
			t.Fatal("Sin turns its sign", n)
		}
		if c := must(t, api.Cos, below, n); integer.Cmp(c, integer.Neg(unit)) != 0 {
			t.Fatal("Cos is -1", n)
		}
	}
}

func TestExamples(t *testing.T) {
	if integer.Text(must(t, api.Exp, frac(1, 1), 10)) != "2783" || integer.Text(must(t, api.Sin, frac(-1, 1), 4)) != "-14" {
		t.Fatal("examples")
	}
}

func BenchmarkFloor(b *testing.B) {
	for f, name := range []string{"", "exp", "log", "sin", "cos", "tan", "atan"} {
		if f > 0 {
			b.Run(name, func(b *testing.B) {
				for b.Loop() {
					Floor(f, frac(355, 113), 64)
				}
			})
		}
	}
}
