package rat

import (
	"math/big"
	"math/rand"
	"slices"
	"testing"

	"ziggurat/api"
	"ziggurat/gcd"
	"ziggurat/integer"
	"ziggurat/mul"
	"ziggurat/nat"
)

func frac(n, d int64) api.Rat {
	q, err := Make(integer.Of(n), integer.Of(d))
	if err != api.OK {
		panic(err)
	}
	return q
}

func toBig(t *testing.T, a api.Rat) *big.Rat {
	t.Helper()
	if !Right(a) {
		t.Fatal("not right", a)
	}
	q, is := new(big.Rat).SetString(Text(a))
	if !is {
		t.Fatal(Text(a))
	}
	return q
}

func numbers() []api.Rat {
	r := rand.New(rand.NewSource(1))
	l := []api.Rat{frac(0, 1), frac(1, 1), frac(-1, 1), frac(1, 2), frac(-1, 2), frac(3, 10), frac(1, 3), frac(22, 7), frac(-355, 113), frac(7, 1)}
	for n := range 14 {
		d := r.Int63n(1 << (4*n + 2))
		l = append(l, frac(r.Int63n(1<<(4*n+2))-1<<(4*n+1), d+1))
	}
	long := Whole(integer.Pow(integer.Of(-12345), 40))
	long.Den = integer.Pow(integer.Of(7), 90).Mag
	return append(l, long)
}

func zero(q api.Rat) bool { return len(q.Num.Mag) == 0 && !q.Num.Neg && q.Den == nil }

func same(t *testing.T, what string, got api.Rat, want *big.Rat) {
	t.Helper()
	if toBig(t, got).Cmp(want) != 0 {
		t.Fatal(what, Text(got), want)
	}
}

func TestRightAndMake(t *testing.T) {
	two := integer.Of(2)
	for i, q := range []api.Rat{{}, {Num: two, Den: []uint32{2}}, {Num: two}, {Den: []uint32{2}}, {Num: two, Den: []uint32{1, 0}}, {Num: api.Int{Neg: true}, Den: []uint32{1}}} {
		if Right(q) {
			t.Fatal(i)
		}
	}
	if !Right(api.Rat{Den: []uint32{1}}) {
		t.Fatal("0")
	}
	for n := int64(-12); n <= 12; n++ {
		for d := int64(-12); d <= 12; d++ {
			q, err := Make(integer.Of(n), integer.Of(d))
			if d == 0 {
				if err != api.ErrZero || !zero(q) {
					t.Fatal("over 0")
				}
				continue
			}
			same(t, "Make", q, big.NewRat(n, d))
		}
	}
	same(t, "Whole", Whole(integer.Of(-5)), big.NewRat(-5, 1))
}

func TestField(t *testing.T) {
	l := numbers()
	for _, a := range l {
		x := toBig(t, a)
		same(t, "Neg", Neg(a), new(big.Rat).Neg(x))
		if Sign(a) != x.Sign() {
			t.Fatal("Sign", x)
		}
		for _, b := range l {
			y := toBig(t, b)
			same(t, "Add", Add(a, b), new(big.Rat).Add(x, y))
			same(t, "Sub", Sub(a, b), new(big.Rat).Sub(x, y))
			same(t, "Mul", Mul(a, b), new(big.Rat).Mul(x, y))
			if Cmp(a, b) != x.Cmp(y) || Cmp(a, b) != Sign(Sub(a, b)) {
				t.Fatal("Cmp", x, y)
			}
			q, err := Div(a, b)
			if y.Sign() == 0 {
				if err != api.ErrZero || !zero(q) {
					t.Fatal("by 0")
				}
				continue
			}
			same(t, "Div", q, new(big.Rat).Quo(x, y))
			if c := l[5]; Cmp(Mul(Add(a, b), c), Add(Mul(a, c), Mul(b, c))) != 0 || Cmp(Mul(q, b), a) != 0 {
				t.Fatal("field", x, y)
			}
		}
	}
}

func TestPowFloorCeil(t *testing.T) {
	for _, a := range numbers() {
		x := toBig(t, a)
		want := big.NewRat(1, 1)
		for n := range 8 {
			p, err := Pow(a, n)
			if same(t, "Pow", p, want); err != api.OK {
				t.Fatal(err)
			}
			if n > 0 && x.Sign() != 0 {
				q, err := Pow(a, -n)
				if same(t, "Pow", q, new(big.Rat).Inv(want)); err != api.OK {
					t.Fatal(err)
				}
			}
			want = new(big.Rat).Mul(want, x)
		}
		f, c := Whole(Floor(a)), Whole(Ceil(a))
		if Cmp(f, a) > 0 || Cmp(Add(f, frac(1, 1)), a) <= 0 || Cmp(c, a) < 0 || Cmp(Sub(c, frac(1, 1)), a) >= 0 {
			t.Fatal("Floor", x)
		}
	}
	if p, err := Pow(frac(0, 1), -1); err != api.ErrZero || !zero(p) {
		t.Fatal("0 to the power of -1")
	}
}

// simplest goes through denominators, and sizes.
func simplest(a, b api.Rat) api.Rat {
	for d := int64(1); ; d++ {
		var best *api.Rat
		for n := int64(-40 * d); n <= 40*d; n++ {
			q := frac(n, d)
			if Cmp(a, q) <= 0 && Cmp(q, b) <= 0 && (best == nil || nat.Cmp(q.Num.Mag, best.Num.Mag) < 0) {
				best = &q
			}
		}
		if best != nil {
			return *best
		}
	}
}

func TestSimplest(t *testing.T) {
	var l []api.Rat
	for d := int64(1); d < 9; d++ {
		for n := -4 * d; n <= 4*d; n += 1 + d/3 {
			l = append(l, frac(n, d))
		}
	}
	for _, a := range l {
		for _, b := range l {
			q, err := Simplest(a, b)
			if Cmp(a, b) > 0 {
				if err != api.ErrArg || !zero(q) {
					t.Fatal("a above b")
				}
			} else if err != api.OK || Cmp(q, simplest(a, b)) != 0 || !Right(q) {
				t.Fatal(Text(a), Text(b), Text(q), Text(simplest(a, b)))
			}
		}
	}
	if q, _ := Simplest(frac(22, 7), frac(23, 7)); Text(q) != "13/4" {
		t.Fatal(Text(q))
	}
}

func TestContinuedFractions(t *testing.T) {
	for _, a := range append(numbers(), frac(415, 93), frac(-3, 2)) {
		l := Terms(a)
		if len(l) > 1 && integer.Cmp(l[len(l)-1], integer.Of(2)) < 0 {
			t.Fatal("last term", Text(a), l)
		}
		for _, x := range l[1:] {
			if integer.Sign(x) < 1 {
				t.Fatal("terms", Text(a), l)
			}
		}
		if q, err := From(l); err != api.OK || Cmp(q, a) != 0 || !Right(q) {
			t.Fatal("From", Text(a))
		}
	}
	of := func(l ...int64) (out []api.Int) {
		for _, n := range l {
			out = append(out, integer.Of(n))
		}
		return out
	}
	equal := func(a, b []api.Int) bool {
		return slices.EqualFunc(a, b, func(x, y api.Int) bool { return integer.Cmp(x, y) == 0 })
	}
	if !equal(Terms(frac(415, 93)), of(4, 2, 6, 7)) || !equal(Terms(frac(-3, 2)), of(-2, 2)) {
		t.Fatal("examples")
	}
	for _, l := range [][]api.Int{nil, of(1, 0), of(1, 2, -1, 3), of(5, 1, 1, 0)} {
		if q, err := From(l); err != api.ErrArg || !zero(q) {
			t.Fatal(l)
		}
	}
	if q, _ := From(of(-2, 1, 1)); Text(q) != "-3/2" {
		t.Fatal(Text(q))
	}
	if q, _ := From(of(0)); !Right(q) || Sign(q) != 0 {
		t.Fatal("0")
	}
}

func TestTexts(t *testing.T) {
	for _, a := range numbers() {
		if b, at, err := Read(Text(a)); err != api.OK || at != 0 || Cmp(a, b) != 0 {
			t.Fatal(Text(a))
		}
	}
	for s, want := range map[string]string{"6/4": "3/2", "-0/5": "0", "-06/004": "-3/2", "7": "7", "0/1": "0"} {
		if q, _, err := Read(s); err != api.OK || Text(q) != want || !Right(q) {
			t.Fatal(s, Text(q))
		}
	}
	for s, at := range map[string]int{"": 0, "/": 0, "/2": 0, "-/2": 1, "1/": 2, "6/-4": 2, "1/2/3": 3, "1a/2": 1, "1/0a": 3, "1/+2": 2, "-": 1, "1.5": 1} {
		if q, place, err := Read(s); err != api.ErrDigit || place != at || !zero(q) {
			t.Fatal(s, place, err)
		}
	}
	for s, at := range map[string]int{"1/0": 2, "-12/000": 4, "0/0": 2} {
		if q, place, err := Read(s); err != api.ErrZero || place != at || !zero(q) {
			t.Fatal(s, place, err)
		}
	}
}

func TestLong(t *testing.T) {
	a, b := mul.Pow([]uint32{3}, 60000), mul.Pow([]uint32{5}, 40000)
	q := api.Rat{Num: integer.Make(true, a), Den: b}
	if p, err := From(Terms(q)); err != api.OK || Cmp(p, q) != 0 {
		t.Fatal("continued fraction")
	}
	near := Add(q, api.Rat{Num: integer.Of(1), Den: nat.Shl([]uint32{1}, 90000)})
	s, _ := Simplest(q, near)
	if Cmp(s, q) < 0 || Cmp(s, near) > 0 || !Right(s) || nat.Bits(s.Den) > 46000 || len(gcd.Gcd(s.Num.Mag, s.Den)) != 1 {
		t.Fatal("Simplest", nat.Bits(s.Den))
	}
}
