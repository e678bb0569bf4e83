package isolate

import (
	"math/rand"
	"reflect"
	"slices"
	"testing"

	"ziggurat/api"
	"ziggurat/dyad"
	"ziggurat/integer"
	"ziggurat/poly"
	"ziggurat/rat"
	"ziggurat/sturm"
)

func of(l ...int64) []api.Int {
	var p []api.Int
	for _, n := range l {
		p = append(p, integer.Of(n))
	}
	return poly.Make(p)
}

func product(l ...[]api.Int) []api.Int {
	z := of(1)
	for _, p := range l {
		z = poly.Mul(z, p)
	}
	return z
}

func polys() [][]api.Int {
	r := rand.New(rand.NewSource(1))
	l := [][]api.Int{of(5), of(0, 1), of(-1, 2), of(-2, 0, 1), of(1, 0, 1), of(0, 0, 0, 3), of(0, -1, 0, 1), of(0, 4, 0, -5, 0, 1), of(1, -3, 0, 1),
		product(of(-2, 0, 1), of(-2, 0, 1), of(-3, 0, 1)), product(of(-1, 2), of(-3, 4), of(-3, 8), of(-1, 3), of(1, 0, 7)),
		product(of(-1000, 1000), of(-1001, 1000), of(-999, 1000)), of(2, -400, 20000, 0, 0, -1), of(-1, 0, 0, 0, 0, 0, 0, 0, 1)}
	for n := range 12 {
		p := make([]api.Int, 2+n%7)
		for i := range p {
			p[i] = integer.Of(r.Int63n(41) - 20)
		}
		if p = poly.Make(p); len(p) > 0 {
			l = append(l, p, poly.Mul(p, of(-7, 3)))
		}
	}
	return l
}

// asWritten takes halves and counts, as the chapter has it.
func asWritten(p []api.Int, s api.Span) []api.Span {
	switch sturm.Count(p, s) {
	case 0:
		return nil
	case 1:
		return []api.Span{s}
	}
	mid := dyad.Mid(s.Lo, s.Hi)
	return append(asWritten(p, api.Span{Lo: s.Lo, Hi: mid}), asWritten(p, api.Span{Lo: mid, Hi: s.Hi})...)
}

func same(a, b api.Span) bool { return dyad.Cmp(a.Lo, b.Lo) == 0 && dyad.Cmp(a.Hi, b.Hi) == 0 }

func TestRoots(t *testing.T) {
	for _, p := range polys() {
		l := Roots(p)
		top := dyad.Make(integer.Of(1), sturm.Bound(p))
		if want := asWritten(p, api.Span{Lo: dyad.Neg(top), Hi: top}); !slices.EqualFunc(l, want, same) || len(l) != sturm.All(p) {
			t.Fatal(p, l, want)
		}
		for i, s := range l {
			if sturm.Count(p, s) != 1 || i > 0 && dyad.Cmp(l[i-1].Hi, s.Lo) > 0 || !dyad.Right(s.Lo) || !dyad.Right(s.Hi) {
				t.Fatal(p, s)
			}
		}
	}
	if l := Roots(of(-2, 0, 1)); len(l) != 2 || dyad.Sign(l[0].Hi) != 0 || dyad.Cmp(l[1].Hi, dyad.Make(integer.Of(4), 0)) != 0 {
		t.Fatal(l)
	}
}

func refine(p []api.Int, s api.Span, n int) api.Span {
	for dyad.Cmp(dyad.Sub(s.Hi, s.Lo), dyad.Make(integer.Of(1), -n)) > 0 {
		mid := dyad.Mid(s.Lo, s.Hi)
		if low := (api.Span{Lo: s.Lo, Hi: mid}); sturm.Count(p, low) == 1 {
			s = low
		} else {
			s.Lo = mid
		}
	}
	return s
}

func TestRefine(t *testing.T) {
	for _, p := range polys() {
		for _, s := range Roots(p) {
			for _, n := range []int{0, 1, 2, 5, 12, 40} {
				got := Refine(p, s, n)
				if !same(got, refine(p, s, n)) {
					t.Fatal(p, s, n, got)
				}
				if !same(Refine(p, got, n+7), Refine(p, s, n+7)) {
					t.Fatal("in steps", p, s, n)
				}
			}
		}
	}
	// Spans whose ends are no multiples of their width, and begin at another root.
	odd := func(lo, hi int64, e int) api.Span {
		return api.Span{Lo: dyad.Make(integer.Of(lo), e), Hi: dyad.Make(integer.Of(hi), e)}
	}
	for _, x := range []struct {
		p []api.Int
		s api.Span
	}{{of(-2, 0, 1), odd(5, 16, -3)}, {of(0, -1, 1), odd(0, 9, -3)}, {of(0, -1, 1), odd(0, 8, -3)}, {of(0, 0, -1, 1), odd(-7, 0, 0)}, {of(0, -1, 100), odd(0, 7, 0)}, {of(-300, 1), odd(1, 3, 8)}} {
		for _, n := range []int{0, 3, 20, 60} {
			if got := Refine(x.p, x.s, n); !same(got, refine(x.p, x.s, n)) {
				t.Fatal(x, n, got, refine(x.p, x.s, n))
			}
		}
	}
}

func TestFloor(t *testing.T) {
	for _, p := range polys() {
		n := sturm.All(p)
		for _, k := range []int{-1, n, n + 5} {
			if f, err := Floor(p, k, 5); err != api.ErrNone || integer.Sign(f) != 0 {
				t.Fatal("no root", p, k)
			}
			if q, is := Exact(p, k); is || !reflect.DeepEqual(q, api.Rat{}) {
				t.Fatal("no root", p, k)
			}
		}
		for k := range n {
			fine, err := Floor(p, k, 60)
			if err != api.OK || !integer.Right(fine) {
				t.Fatal(p, k)
			}
			// The root is not below fine, and below one more: count it by a span that ends just below, and by one that ends at the root.
			below := func(f api.Int, e int) int {
				return sturm.Count(p, api.Span{Lo: dyad.Make(integer.Of(-1), 40), Hi: dyad.Make(integer.Sub(integer.Shift(f, 1), integer.Of(1)), -e-1)})
			}
			if d := dyad.Make(fine, -60); sturm.Count(p, api.Span{Lo: dyad.Make(integer.Of(-1), 40), Hi: d})-below(fine, 60) == 0 && below(fine, 60) > k || below(integer.Add(fine, integer.Of(2)), 60) <= k {
				t.Fatal("between", p, k, d)
			}
			for _, e := range []int{0, 1, 7, 59} {
				if f, _ := Floor(p, k, e); integer.Cmp(f, integer.Shift(fine, e-60)) != 0 {
					t.Fatal("fewer bits", p, k, e)
				}
			}
			moved, _ := Floor(poly.Shift(p, integer.Of(-3)), k, 60)
			if integer.Cmp(moved, integer.Add(fine, integer.Shift(integer.Of(3), 60))) != 0 {
				t.Fatal("moved", p, k)
			}
			if doubled, _ := Floor(poly.Twist(p, 1), k, 59); integer.Cmp(doubled, fine) != 0 {
				t.Fatal("doubled", p, k)
			}
		}
	}
	if f, _ := Floor(of(-2, 0, 1), 1, 10); integer.Text(f) != "1448" {
		t.Fatal(f)
	}
	if f, _ := Floor(of(-2, 0, 1), 0, 10); integer.Text(f) != "-1449" {
		t.Fatal(f)
	}
	if f, _ := Floor(of(-3, 8), 0, 3); integer.Text(f) != "3" {
		t.Fatal(f)
	}
}

func TestLongFloors(t *testing.T) {
	s, _ := Floor(of(-2, 0, 1), 1, 65536)
	next := integer.Add(s, integer.Of(1))
	two := integer.Shift(integer.Of(2), 2*65536)
	if integer.Cmp(integer.Mul(s, s), two) > 0 || integer.Cmp(integer.Mul(next, next), two) <= 0 {
		t.Fatal("sqrt 2")
	}
	p := of(1, -3, 0, 1)
	for k := range 3 {
		f, _ := Floor(p, k, 20000)
		lo, hi := dyad.Rat(dyad.Make(f, -20000)), dyad.Rat(dyad.Make(integer.Add(f, integer.Of(1)), -20000))
		if poly.Sign(p, lo)*poly.Sign(p, hi) != -1 {
			t.Fatal(k)
		}
	}
	if f, _ := Floor(of(-5, 64), 0, 65536); integer.Cmp(f, integer.Shift(integer.Of(5), 65530)) != 0 {
		t.Fatal("5/64")
	}
	long := make([]api.Int, 41)
	for i := range long {
		long[i] = integer.Of(int64(i*i%17) - 8)
	}
	if n := sturm.All(long); n > 0 {
		f, _ := Floor(long, n-1, 65536)
		g, _ := Floor(long, n-1, 65000)
		if integer.Cmp(integer.Shift(f, -536), g) != 0 {
			t.Fatal("degree 40")
		}
	}
}

func TestExact(t *testing.T) {
	for _, p := range polys() {
		var rational []api.Rat
		for d := int64(1); d <= 1000; d++ {
			if d > 60 && d != 1000 {
				continue
			}
			for n := -70 * d; n <= 70*d; n++ {
				if d > 8 && (n < -1200 || n > 1200) {
					continue
				}
				q, _ := rat.Make(integer.Of(n), integer.Of(d))
				if len(q.Den) == 1 && int64(q.Den[0]) == d && poly.Sign(p, q) == 0 {
					rational = append(rational, q)
				}
			}
		}
		slices.SortFunc(rational, rat.Cmp)
		var got []api.Rat
		for k := range sturm.All(p) {
			if q, is := Exact(p, k); is {
				got = append(got, q)
			} else if !reflect.DeepEqual(q, api.Rat{}) {
				t.Fatal("none", p, k)
			}
		}
		if len(p) > 1 && !slices.EqualFunc(got, rational, func(a, b api.Rat) bool { return rat.Cmp(a, b) == 0 }) {
			t.Fatal(p, got, rational)
		}
	}
	// A rational root, and an irrational one very near to it.
	near := product(of(-1, 1), of(-1000000000000000000, 0, 999999999999999999))
	if len(Roots(near)) != 3 {
		t.Fatal(len(Roots(near)))
	}
	if q, is := Exact(near, 1); !is || rat.Text(q) != "1" {
		t.Fatal(q)
	}
	if _, is := Exact(near, 2); is {
		t.Fatal("not rational")
	}
}
