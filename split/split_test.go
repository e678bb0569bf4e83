package split

import (
	"reflect"
	"testing"

	"ziggurat/api"
	"ziggurat/integer"
	"ziggurat/nat"
	"ziggurat/rat"
)

func frac(n, d int64) api.Rat {
	q, _ := rat.Make(integer.Of(n), integer.Of(d))
	return q
}

func ints(l ...int64) []api.Int {
	var out []api.Int
	for _, n := range l {
		out = append(out, integer.Of(n))
	}
	return out
}

var all = []int{api.Exp, api.Log, api.Sin, api.Cos, api.Atan}

func power(x api.Rat, n int) api.Rat { z, _ := rat.Pow(x, n); return z }
func over(x api.Rat, n api.Int) api.Rat {
	z, _ := rat.Div(x, rat.Whole(n))
	return z
}

// term is the k-th one, as the chapter writes it.
func term(kind int, x api.Rat, k int) api.Rat {
	f := func(n int) api.Int {
		z := integer.Of(1)
		for i := 2; i <= n; i++ {
			z = integer.Mul(z, integer.Of(int64(i)))
		}
		return z
	}
	sign := rat.Whole(integer.Of(int64(1 - 2*(k%2))))
	switch kind {
	case api.Exp:
		return over(power(x, k), f(k))
	case api.Sin:
		return rat.Mul(sign, over(power(x, 2*k+1), f(2*k+1)))
	case api.Cos:
		return rat.Mul(sign, over(power(x, 2*k), f(2*k)))
	case api.Atan:
		return rat.Mul(sign, over(power(x, 2*k+1), integer.Of(int64(2*k)+1)))
	}
	return over(power(x, 2*k+1), integer.Of(int64(2*k)+1))
}

var points = []api.Rat{frac(0, 1), frac(1, 1), frac(-1, 1), frac(1, 2), frac(-1, 2), frac(2, 7), frac(-5, 11), frac(1, 1000)}

func TestSplit(t *testing.T) {
	p, q := ints(1, 2, -3, 0, 5, 7, 1), ints(3, 4, 1, -2, 6, 5, 9)
	for n := range len(p) + 1 {
		P, Q, T := Split(p[:n], q[:n])
		wantP, wantQ, sum, prod := integer.Of(1), integer.Of(1), rat.Whole(api.Int{}), frac(1, 1)
		for i := range n {
			wantP, wantQ = integer.Mul(wantP, p[i]), integer.Mul(wantQ, q[i])
			step, _ := rat.Make(p[i], q[i])
			prod = rat.Mul(prod, step)
			sum = rat.Add(sum, prod)
		}
		if integer.Cmp(P, wantP) != 0 || integer.Cmp(Q, wantQ) != 0 || rat.Cmp(rat.Whole(T), rat.Mul(rat.Whole(Q), sum)) != 0 {
			t.Fatal(n, P, Q, T)
		}
		for k := range n {
			p1, q1, t1 := Split(p[:k], q[:k])
			p2, q2, t2 := Split(p[k:n], q[k:n])
			z := join(triple{p1, q1, t1}, triple{p2, q2, t2})
			if integer.Cmp(z.p, P) != 0 || integer.Cmp(z.q, Q) != 0 || integer.Cmp(z.t, T) != 0 {
				t.Fatal("halves", n, k)
			}
		}
	}
	P, Q, T := Split(ints(1, 2), ints(3, 4))
	if integer.Text(P) != "2" || integer.Text(Q) != "12" || integer.Text(T) != "6" {
		t.Fatal("example", P, Q, T)
	}
}

func TestSum(t *testing.T) {
	for _, kind := range all {
		for _, x := range append(points, frac(7, 3)) {
			want := rat.Whole(api.Int{})
			for n := range 12 {
				want = rat.Add(want, term(kind, x, n))
				s, err := Sum(kind, x, n)
				if err != api.OK || !rat.Right(s) || rat.Cmp(s, want) != 0 {
					t.Fatal(kind, rat.Text(x), n, rat.Text(s))
				}
				turned, _ := Sum(kind, rat.Neg(x), n)
				if kind == api.Cos && rat.Cmp(turned, s) != 0 || (kind == api.Sin || kind == api.Atan || kind == api.Log) && rat.Cmp(turned, rat.Neg(s)) != 0 {
					t.Fatal("sign", kind, rat.Text(x))
				}
			}
		}
	}
	if s, _ := Sum(api.Exp, frac(1, 1), 3); rat.Text(s) != "8/3" {
		t.Fatal(rat.Text(s))
	}
	if s, _ := Sum(api.Log, frac(1, 2), 1); rat.Text(s) != "13/24" {
		t.Fatal(rat.Text(s))
	}
}

func TestRest(t *testing.T) {
	for _, kind := range all {
		for _, x := range points {
			if kind == api.Log && rat.Cmp(rat.Mul(x, x), frac(1, 4)) > 0 {
				continue
			}
			size := x
			if rat.Sign(x) < 0 {
				size = rat.Neg(x)
			}
			for n := range 10 {
				r, err := Rest(kind, x, n)
				want := term(kind, size, n+1)
				if rat.Sign(want) < 0 {
					want = rat.Neg(want)
				}
				if kind == api.Exp || kind == api.Log {
					want = rat.Add(want, want)
				}
				if err != api.OK || !rat.Right(r) || rat.Cmp(r, want) != 0 {
					t.Fatal(kind, rat.Text(x), n, rat.Text(r), rat.Text(want))
				}
				a, _ := Sum(kind, x, n)
				b, _ := Sum(kind, x, n+20)
				off := rat.Sub(b, a)
				if rat.Cmp(off, r) > 0 || rat.Cmp(rat.Neg(off), r) > 0 {
					t.Fatal("left", kind, rat.Text(x), n)
				}
			}
		}
	}
	if r, _ := Rest(api.Cos, frac(1, 1), 1); rat.Text(r) != "1/24" {
		t.Fatal(rat.Text(r))
	}
}

func TestTerms(t *testing.T) {
	for _, kind := range all {
		for _, x := range append(points, frac(1, 4), frac(1, 256)) {
			if (kind == api.Log || kind == api.Atan) && rat.Cmp(rat.Mul(x, x), frac(1, 4)) > 0 {
				continue
			}
			for _, m := range []int{0, 1, 3, 10, 50, 300} {
				n, err := Terms(kind, x, m)
				small := api.Rat{Num: integer.Of(1), Den: nat.Shl([]uint32{1}, m)}
				r, _ := Rest(kind, x, n)
				if err != api.OK || rat.Cmp(r, small) > 0 {
					t.Fatal(kind, rat.Text(x), m, n)
				}
				if n > 0 {
					if r, _ := Rest(kind, x, n-1); rat.Cmp(r, small) <= 0 {
						t.Fatal("one less", kind, rat.Text(x), m, n)
					}
				}
			}
		}
	}
	if n, _ := Terms(api.Exp, frac(1, 1), 10); n != 6 {
		t.Fatal(n)
	}
	// Just 2^-m: 2 x = 1/2, and the like.
	if n, _ := Terms(api.Exp, frac(1, 4), 1); n != 0 {
		t.Fatal(n)
	}
	long := api.Rat{Num: integer.Of(1), Den: integer.Add(integer.Shift(integer.Of(1), 40000), integer.Of(1)).Mag}
	long = rat.Sub(frac(1, 2), long)
	for _, kind := range all {
		if n, err := Terms(kind, long, 65536); err != api.OK || n < 1000 || n > 40000 {
			t.Fatal("long", kind, n)
		}
	}
}

func TestErrors(t *testing.T) {
	two, none := frac(2, 1), api.Rat{}
	for _, kind := range []int{-1, 0, 5, 7, 100} {
		s, err := Sum(kind, two, 3)
		r, err2 := Rest(kind, two, 3)
		n, err3 := Terms(kind, two, 3)
		if err != api.ErrArg || err2 != api.ErrArg || err3 != api.ErrArg || !reflect.DeepEqual(s, none) || !reflect.DeepEqual(r, none) || n != 0 {
			t.Fatal(kind)
		}
	}
	for _, kind := range all {
		s, err := Sum(kind, two, -1)
		r, err2 := Rest(kind, two, -1)
		if err != api.ErrArg || err2 != api.ErrArg || !reflect.DeepEqual(s, none) || !reflect.DeepEqual(r, none) {
			t.Fatal("n", kind)
		}
		for _, m := range []int{-1, 65537} {
			if n, err := Terms(kind, two, m); err != api.ErrArg || n != 0 {
				t.Fatal("m", kind)
			}
		}
		r, err = Rest(kind, frac(-1001, 1000), 3)
		n, err2 := Terms(kind, frac(-1001, 1000), 3)
		if err != api.ErrDomain || err2 != api.ErrDomain || !reflect.DeepEqual(r, none) || n != 0 {
			t.Fatal("domain", kind)
		}
		_, err = Rest(kind, frac(501, 1000), 3)
		_, err2 = Terms(kind, frac(501, 1000), 3)
		if (err == api.ErrDomain) != (kind == api.Log) || (err2 == api.ErrDomain) != (kind == api.Log || kind == api.Atan) {
			t.Fatal("1/2", kind, err, err2)
		}
	}
}

func TestEquations(t *testing.T) {
	x, y := frac(1, 3), frac(-2, 7)
	near := func(what string, a, b api.Rat) {
		d := rat.Sub(a, b)
		if rat.Cmp(rat.Mul(d, d), power(frac(1, 2), 200)) > 0 {
			t.Fatal(what)
		}
	}
	sum := func(kind int, x api.Rat) api.Rat {
		n, _ := Terms(kind, x, 110)
		s, _ := Sum(kind, x, n)
		return s
	}
	near("exp", rat.Mul(sum(api.Exp, x), sum(api.Exp, y)), sum(api.Exp, rat.Add(x, y)))
	near("sin and cos", rat.Add(power(sum(api.Sin, x), 2), power(sum(api.Cos, x), 2)), frac(1, 1))
	add := func(sign int64) api.Rat {
		q, _ := rat.Div(rat.Add(x, y), rat.Add(frac(1, 1), rat.Mul(frac(sign, 1), rat.Mul(x, y))))
		return q
	}
	near("atan", rat.Add(sum(api.Atan, x), sum(api.Atan, y)), sum(api.Atan, add(-1)))
	near("atanh", rat.Add(sum(api.Log, x), sum(api.Log, y)), sum(api.Log, add(1)))
}
