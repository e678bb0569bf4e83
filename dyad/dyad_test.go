package dyad

import (
	"math/rand"
	"reflect"
	"testing"

	"ziggurat/api"
	"ziggurat/integer"
	"ziggurat/rat"
)

func of(m int64, e int) api.Dyad { return Make(integer.Of(m), e) }

func numbers() []api.Dyad {
	r := rand.New(rand.NewSource(1))
	l := []api.Dyad{{}, of(1, 0), of(-1, 0), of(3, -3), of(5, -3), of(-5, -2), of(1, 40), of(-1, -40), of(12, -1)}
	for range 12 {
		l = append(l, of(r.Int63n(1<<30)-1<<29, r.Intn(40)-20))
	}
	return l
}

func same(t *testing.T, what string, got api.Dyad, want api.Rat) {
	t.Helper()
	if !Right(got) || rat.Cmp(Rat(got), want) != 0 || !rat.Right(Rat(got)) {
		t.Fatal(what, got, want)
	}
}

func frac(n, d int64) api.Rat {
	q, _ := rat.Make(integer.Of(n), integer.Of(d))
	return q
}

func TestRightAndMake(t *testing.T) {
	one := integer.Of(1)
	for i, d := range []api.Dyad{{Man: integer.Of(2)}, {Exp: 1}, {Man: one, Exp: 100001}, {Man: one, Exp: -100001}, {Man: api.Int{Neg: true}}, {Man: api.Int{Mag: []uint32{1, 0}}}} {
		if Right(d) {
			t.Fatal(i)
		}
	}
	for i, d := range []api.Dyad{{}, {Man: one, Exp: 100000}, {Man: one, Exp: -100000}, {Man: integer.Of(-3)}} {
		if !Right(d) {
			t.Fatal(i)
		}
	}
	if d := of(12, -1); integer.Text(d.Man) != "3" || d.Exp != 1 {
		t.Fatal(d)
	}
	if d := Make(integer.Shift(integer.Of(-5), 100), -50); integer.Text(d.Man) != "-5" || d.Exp != 50 {
		t.Fatal(d)
	}
	if d := of(0, 77); !reflect.DeepEqual(d, api.Dyad{}) {
		t.Fatal(d)
	}
}

func TestSumsAreThoseOfRationals(t *testing.T) {
	l := numbers()
	for _, a := range l {
		x := Rat(a)
		same(t, "Neg", Neg(a), rat.Neg(x))
		if Sign(a) != rat.Sign(x) {
			t.Fatal("Sign", a)
		}
		for _, b := range l {
			y := Rat(b)
			same(t, "Add", Add(a, b), rat.Add(x, y))
			same(t, "Sub", Sub(a, b), rat.Sub(x, y))
			same(t, "Mul", Mul(a, b), rat.Mul(x, y))
			same(t, "Mid", Mid(a, b), rat.Mul(rat.Add(x, y), frac(1, 2)))
			if Cmp(a, b) != rat.Cmp(x, y) || (Cmp(a, b) == 0) != reflect.DeepEqual(a, b) {
				t.Fatal("Cmp", a, b)
			}
			if m := Mid(a, b); Cmp(Sub(m, a), Sub(b, m)) != 0 || Cmp(m, a)*Cmp(m, b) > 0 {
				t.Fatal("Mid", a, b)
			}
		}
	}
	same(t, "far apart", Add(of(1, 50000), of(1, -50000)), rat.Add(Rat(of(1, 50000)), Rat(of(1, -50000))))
}

// isRounded tells whether d is q rounded to n bits, as the chapter says it.
func isRounded(q api.Rat, d api.Dyad, n, dir int) bool {
	unit := Rat(of(1, -n))
	steps, _ := rat.Div(Rat(d), unit)
	off, _ := rat.Div(rat.Sub(q, Rat(d)), unit)
	if !Right(d) || len(steps.Den) != 1 || steps.Den[0] != 1 || rat.Cmp(off, frac(1, 1)) >= 0 || rat.Cmp(off, frac(-1, 1)) <= 0 {
		return false
	}
	s, below := rat.Sign(off), rat.Sign(q) < 0
	switch dir {
	case api.Floor:
		return s >= 0
	case api.Ceil:
		return s <= 0
	case api.Trunc:
		return s >= 0 && !below || s <= 0 && below
	case api.Away:
		return s <= 0 && !below || s >= 0 && below
	}
	half := rat.Cmp(rat.Mul(off, off), frac(1, 4))
	even := len(steps.Num.Mag) == 0 || steps.Num.Mag[0]%2 == 0
	return half < 0 || half == 0 && even
}

func TestRounded(t *testing.T) {
	r := rand.New(rand.NewSource(2))
	q := []api.Rat{frac(1, 3), frac(-1, 3), frac(3, 8), frac(5, 8), frac(-5, 8), frac(-3, 8), frac(7, 1), frac(0, 1), frac(12, 1)}
	for range 20 {
		q = append(q, frac(r.Int63n(2000)-1000, r.Int63n(99)+1), frac(r.Int63n(2000)-1000, 1<<r.Intn(12)))
	}
	for _, a := range numbers() {
		q = append(q, Rat(a))
	}
	for _, x := range q {
		for n := -12; n < 30; n += 3 {
			for dir := range 5 {
				d, err := Cut(x, n, dir)
				if err != api.OK || !isRounded(x, d, n, dir) {
					t.Fatal(rat.Text(x), n, dir, d)
				}
				again, err := Round(d, n, dir)
				if err != api.OK || !reflect.DeepEqual(again, d) {
					t.Fatal("its own", d, n)
				}
				if fewer, _ := Round(d, n-5, dir); dir != api.Near {
					if once, _ := Cut(x, n-5, dir); !reflect.DeepEqual(fewer, once) {
						t.Fatal("twice", rat.Text(x), n, dir)
					}
				}
			}
		}
	}
	for _, a := range numbers() {
		for n := -12; n < 30; n += 5 {
			for dir := range 5 {
				d, _ := Round(a, n, dir)
				want, _ := Cut(Rat(a), n, dir)
				if !reflect.DeepEqual(d, want) {
					t.Fatal(a, n, dir)
				}
			}
			floor, _ := Round(a, n, api.Floor)
			if rat.Cmp(rat.Whole(Scaled(a, n)), rat.Mul(Rat(floor), Rat(of(1, n)))) != 0 {
				t.Fatal("Scaled", a, n)
			}
		}
	}
}

func TestDirectionsThatAreNone(t *testing.T) {
	for _, dir := range []int{-1, 5, 100} {
		d, err := Cut(frac(1, 3), 2, dir)
		e, err2 := Round(of(1, 0), 2, dir)
		if err != api.ErrArg || err2 != api.ErrArg || !reflect.DeepEqual([]api.Dyad{d, e}, make([]api.Dyad, 2)) {
			t.Fatal(dir)
		}
	}
}

func TestFar(t *testing.T) {
	if d, _ := Cut(frac(1, 3), -100000, api.Ceil); d.Exp != 100000 {
		t.Fatal(d)
	}
	if d, _ := Cut(frac(1, 3), 100000, api.Floor); d.Exp != -100000 || !Right(d) {
		t.Fatal(d.Exp)
	}
	if n := Scaled(of(-1, -100000), -100000); integer.Text(n) != "-1" {
		t.Fatal(n)
	}
}
