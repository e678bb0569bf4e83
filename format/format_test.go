package format

import (
	"math/rand"
	"reflect"
	"slices"
	"testing"

	"ziggurat/api"
	"ziggurat/integer"
	"ziggurat/nat"
	"ziggurat/rat"
)

func frac(n, d int64) api.Rat {
	q, _ := rat.Make(integer.Of(n), integer.Of(d))
	return q
}

func finite(neg bool, m uint64, e int) api.Float {
	return api.Float{Kind: api.Finite, Neg: neg, Man: nat.Of(m), Exp: e}
}

func same(a, b api.Float) bool {
	return a.Kind == b.Kind && a.Neg == b.Neg && a.Exp == b.Exp && nat.Cmp(a.Man, b.Man) == 0
}

var forms = []api.Form{{Radix: 2, Prec: 3, Low: -2, High: 4}, {Radix: 10, Prec: 2, Low: -3, High: 3}, {Radix: 2, Prec: 1, Low: -3, High: 3}, {Radix: 10, Prec: 1, Low: 0, High: 0}, {Radix: 2, Prec: 4, Low: 2, High: 2}, {Radix: 10, Prec: 1, Low: -1, High: 1}}

// floats are all of a format, rising; 0 twice.
func floats(f api.Form) []api.Float {
	least := uint64(nat.Make(power(f, f.Prec-1))[0])
	var above []api.Float
	for e := f.Low; e <= f.High; e++ {
		from := least
		if e == f.Low {
			from = 1
		}
		for m := from; m < least*uint64(f.Radix); m++ {
			above = append(above, finite(false, m, e))
		}
	}
	above = append(above, api.Float{Kind: api.Inf})
	var l []api.Float
	for i := len(above) - 1; i >= 0; i-- {
		x := above[i]
		x.Neg = true
		l = append(l, x)
	}
	l = append(l, api.Float{Neg: true}, api.Float{})
	return append(l, above...)
}

func TestRightAndHas(t *testing.T) {
	for i, f := range []api.Form{{}, {Radix: 3, Prec: 1}, {Radix: 2}, {Radix: 2, Prec: 4097}, {Radix: 2, Prec: 1, Low: 1}, {Radix: 10, Prec: 1, Low: -100001}, {Radix: 10, Prec: 1, High: 100001}} {
		if Right(f) || Has(f, api.Float{}) {
			t.Fatal(i)
		}
		if x, err := Round(frac(1, 2), f, 0); err != api.ErrArg || !reflect.DeepEqual(x, api.Float{}) {
			t.Fatal("Round", i)
		}
		if q, is := Value(f, api.Float{}); is || !reflect.DeepEqual(q, api.Rat{}) {
			t.Fatal("Value", i)
		}
	}
	if !Right(api.Form{Radix: 10, Prec: 4096, Low: -100000, High: 100000}) || !Right(api.Form{Radix: 2, Prec: 1}) {
		t.Fatal("Right")
	}
	f := forms[0]
	for i, x := range []api.Float{{Kind: 3}, {Kind: -1}, {Kind: api.Finite}, finite(false, 8, 0), finite(false, 4, 5), finite(false, 4, -3), finite(false, 3, -1), {Kind: api.Zero, Exp: 1}, {Kind: api.Inf, Man: []uint32{1}}, {Kind: api.Finite, Man: []uint32{1, 0}, Exp: -2}} {
		if Has(f, x) {
			t.Fatal(i)
		}
		if q, is := Value(f, x); is || !reflect.DeepEqual(q, api.Rat{}) {
			t.Fatal("Value", i)
		}
	}
	for _, f := range forms {
		for _, x := range floats(f) {
			if !Has(f, x) {
				t.Fatal(f, x)
			}
		}
	}
	if _, is := Value(f, api.Float{Kind: api.Inf}); is {
		t.Fatal("Inf")
	}
}

func TestNeighboursAndOrder(t *testing.T) {
	for _, f := range forms {
		l := floats(f)
		for i, x := range l {
			for j, y := range l {
				want := min(max(i-j, -1), 1)
				if x.Kind == api.Zero && y.Kind == api.Zero {
					want = 0
				}
				if Cmp(f, x, y) != want {
					t.Fatal("Cmp", f, x, y)
				}
			}
			// Of both zeros the one comes next from above, the other one from below.
			next, prev := min(i+1, len(l)-1), max(i-1, 0)
			if x.Kind == api.Zero {
				next, prev = len(l)/2+1, len(l)/2-2
			}
			wantNext, wantPrev := l[next], l[prev]
			if wantNext.Kind == api.Zero {
				wantNext.Neg = true
			}
			if wantPrev.Kind == api.Zero {
				wantPrev.Neg = false
			}
			if got := Next(f, x); !same(got, wantNext) || !Has(f, got) {
				t.Fatal("Next", f, x, got, wantNext)
			}
			if got := Prev(f, x); !same(got, wantPrev) || !Has(f, got) {
				t.Fatal("Prev", f, x, got, wantPrev)
			}
		}
	}
}

// worth is a float, and its value.
type worth struct {
	x api.Float
	v api.Rat
}

// wide are the floats of a format, and of some exponents more, as if there were no end.
func wide(f api.Form) []worth {
	f.High += 3
	var l []worth
	for _, x := range floats(f) {
		if v, is := Value(f, x); is {
			l = append(l, worth{x, v})
		}
	}
	return l
}

// rounded looks among all floats for the one that the chapter names.
func rounded(l []worth, q api.Rat, f api.Form, dir int) api.Float {
	value := func(x api.Float) api.Rat {
		i, _ := slices.BinarySearchFunc(l, x, func(w worth, x api.Float) int { return Cmp(f, w.x, x) })
		return l[i].v
	}
	var down, up api.Float
	for _, w := range l {
		if rat.Cmp(w.v, q) <= 0 {
			down = w.x
		}
	}
	for _, w := range slices.Backward(l) {
		if rat.Cmp(w.v, q) >= 0 {
			up = w.x
		}
	}
	pick := map[int]api.Float{api.Down: down, api.Up: up}
	pick[api.ToZero] = down
	if rat.Sign(q) < 0 {
		pick[api.ToZero] = up
	}
	far := down
	if rat.Sign(q) > 0 {
		far = up
	}
	near := rat.Cmp(rat.Sub(q, value(down)), rat.Sub(value(up), q))
	for _, dir := range []int{api.NearEven, api.NearAway} {
		switch {
		case near < 0:
			pick[dir] = down
		case near > 0:
			pick[dir] = up
		case dir == api.NearAway:
			pick[dir] = far
		default:
			e := min(down.Exp, up.Exp)
			if down.Kind == api.Zero {
				e = up.Exp
			} else if up.Kind == api.Zero {
				e = down.Exp
			}
			unit, _ := rat.Pow(frac(int64(f.Radix), 1), e)
			times, _ := rat.Div(value(down), unit)
			if pick[dir] = up; len(times.Num.Mag) == 0 || times.Num.Mag[0]%2 == 0 {
				pick[dir] = down
			}
		}
	}
	x := pick[dir]
	if x.Kind == api.Zero {
		x.Neg = rat.Sign(q) < 0
	}
	if x.Kind == api.Finite && x.Exp > f.High {
		if dir <= api.NearAway || dir == api.Up && !x.Neg || dir == api.Down && x.Neg {
			return api.Float{Kind: api.Inf, Neg: x.Neg}
		}
		return greatest(f, x.Neg)
	}
	return x
}

func TestRound(t *testing.T) {
	r := rand.New(rand.NewSource(1))
	for _, f := range forms {
		var l []api.Rat
		for _, x := range floats(f) {
			q, is := Value(f, x)
			if !is {
				continue
			}
			for dir := range 5 {
				y, err := Round(q, f, dir)
				want := x
				if x.Kind == api.Zero {
					want.Neg = false
				}
				if err != api.OK || !same(y, want) {
					t.Fatal("its own", f, x, dir, y)
				}
			}
			n := Next(f, x)
			if p, is := Value(f, n); is {
				mid := rat.Mul(rat.Add(p, q), frac(1, 2))
				l = append(l, mid, rat.Add(mid, frac(1, 100000)), rat.Sub(mid, frac(1, 100000)))
			}
			l = append(l, q, rat.Mul(q, frac(9999, 10000)))
		}
		top, _ := Value(f, greatest(f, false))
		for range 6 {
			l = append(l, frac(r.Int63n(4000)-2000, r.Int63n(300)+1), rat.Mul(top, frac(r.Int63n(300)-150, 90)))
		}
		all := wide(f)
		for _, q := range l {
			for dir := range 5 {
				x, err := Round(q, f, dir)
				if want := rounded(all, q, f, dir); err != api.OK || !same(x, want) || !Has(f, x) {
					t.Fatal(f, rat.Text(q), dir, x, want)
				}
				turned := map[int]int{api.Up: api.Down, api.Down: api.Up}
				other, is := turned[dir]
				if !is {
					other = dir
				}
				y, _ := Round(rat.Neg(q), f, other)
				if y.Neg = !y.Neg; rat.Sign(q) != 0 && !same(x, y) {
					t.Fatal("turned", f, rat.Text(q), dir, x, y)
				}
				p := l[r.Intn(len(l))]
				if z, _ := Round(p, f, dir); rat.Cmp(p, q) <= 0 && Cmp(f, z, x) > 0 {
					t.Fatal("order", f, rat.Text(p), rat.Text(q), dir)
				}
			}
		}
	}
}

func TestExamples(t *testing.T) {
	f, d := forms[0], forms[1]
	for i, x := range []struct {
		f    api.Form
		q    api.Rat
		dir  int
		want api.Float
	}{
		{f, frac(1, 3), api.NearEven, finite(false, 1, -2)}, {f, frac(9, 2), api.NearEven, finite(false, 4, 0)}, {f, frac(9, 2), api.NearAway, finite(false, 5, 0)},
		{f, frac(120, 1), api.NearEven, api.Float{Kind: api.Inf}}, {f, frac(120, 1), api.ToZero, finite(false, 7, 4)},
		{d, frac(-1, 3000), api.Up, api.Float{Neg: true}}, {d, frac(-1, 3000), api.Down, finite(true, 1, -3)}, {d, frac(0, 1), api.Down, api.Float{}},
	} {
		if got, err := Round(x.q, x.f, x.dir); err != api.OK || !same(got, x.want) {
			t.Fatal(i, got)
		}
	}
	for _, dir := range []int{-1, 5} {
		if x, err := Round(frac(1, 3), f, dir); err != api.ErrArg || !reflect.DeepEqual(x, api.Float{}) {
			t.Fatal(dir)
		}
	}
}

func TestGreat(t *testing.T) {
	f := api.Form{Radix: 10, Prec: 4096, Low: -100000, High: 100000}
	b := api.Form{Radix: 2, Prec: 4096, Low: -100000, High: 100000}
	for _, n := range []int{-300000, -100001, -5000, 0, 30000, 100000, 320000} {
		q := rat.Whole(integer.Shift(integer.Of(3), max(n, 0)))
		q, _ = rat.Div(q, rat.Whole(integer.Shift(integer.Of(7), max(-n, 0))))
		for _, form := range []api.Form{f, b} {
			down, _ := Round(q, form, api.Down)
			up, _ := Round(q, form, api.Up)
			if !Has(form, down) || !Has(form, up) || !same(Next(form, down), up) {
				t.Fatal(n, form)
			}
			if v, is := Value(form, down); is && rat.Cmp(v, q) > 0 {
				t.Fatal(n, form)
			}
		}
	}
}
