package sturm

import (
	"math/rand"
	"slices"
	"testing"

	"ziggurat/api"
	"ziggurat/dyad"
	"ziggurat/integer"
	"ziggurat/poly"
)

func of(l ...int64) []api.Int {
	var p []api.Int
	for _, n := range l {
		p = append(p, integer.Of(n))
	}
	return poly.Make(p)
}

func equal(a, b []api.Int) bool {
	return slices.EqualFunc(a, b, func(x, y api.Int) bool { return integer.Cmp(x, y) == 0 })
}

func span(lo, hi int64, e int) api.Span {
	return api.Span{Lo: dyad.Make(integer.Of(lo), -e), Hi: dyad.Make(integer.Of(hi), -e)}
}

// linear has the root n / 2^e.
func linear(n int64, e int) []api.Int { return of(-n, 1<<e) }

func power(p []api.Int, k int) []api.Int {
	z := of(1)
	for range k {
		z = poly.Mul(z, p)
	}
	return z
}

func TestVars(t *testing.T) {
	for _, x := range []struct {
		l []api.Int
		n int
	}{{nil, 0}, {[]api.Int{integer.Of(1), {}, integer.Of(-2), integer.Of(-3), integer.Of(4)}, 2}, {[]api.Int{{}, {}, integer.Of(-1)}, 0}, {[]api.Int{integer.Of(-1), integer.Of(1), {}, integer.Of(-1)}, 2}} {
		if Vars(x.l) != x.n {
			t.Fatal(x)
		}
	}
}

func TestChain(t *testing.T) {
	for _, x := range []struct {
		p    []api.Int
		want [][]api.Int
	}{
		{of(-6), [][]api.Int{of(-1)}},
		{of(4, -2), [][]api.Int{of(2, -1), of(-1)}},
		{of(-4, 0, 2), [][]api.Int{of(-2, 0, 1), of(0, 1), of(1)}},
		{of(1, 0, -1), [][]api.Int{of(1, 0, -1), of(0, -1), of(-1)}},
		{of(0, 0, 3), [][]api.Int{of(0, 0, 1), of(0, 1)}},
		{of(1, -3, 0, -1), [][]api.Int{of(1, -3, 0, -1), of(-1, 0, -1), of(-1, 2), of(1)}},
	} {
		if got := Chain(x.p); !slices.EqualFunc(got, x.want, equal) {
			t.Fatal(x.p, got, x.want)
		}
	}
}

func TestChainAsWritten(t *testing.T) {
	r := rand.New(rand.NewSource(7))
	for range 80 {
		p := make([]api.Int, 2+r.Intn(6))
		for i := range p {
			p[i] = integer.Of(r.Int63n(9) - 4)
		}
		p = poly.Make(p)
		if poly.Deg(p) < 1 {
			continue
		}
		l := Chain(p)
		bare := func(f []api.Int) []api.Int {
			var out []api.Int
			for _, c := range f {
				q, _ := integer.Exact(c, integer.Make(false, poly.Content(f)))
				out = append(out, q)
			}
			return out
		}
		if !equal(l[0], bare(p)) || !equal(l[1], bare(poly.Diff(p))) {
			t.Fatal(p, l)
		}
		for i := 2; ; i++ {
			a, b := l[i-2], l[i-1]
			if poly.Deg(b) == 0 {
				if len(l) != i {
					t.Fatal("too long", p, l)
				}
				break
			}
			_, rest, _ := poly.Pseudo(a, b)
			if len(rest) == 0 {
				if len(l) != i {
					t.Fatal("too long", p, l)
				}
				break
			}
			times := integer.Pow(b[len(b)-1], len(a)-len(b)+1)
			if integer.Sign(times) > 0 {
				rest = poly.Scale(rest, integer.Of(-1))
			}
			if !equal(l[i], bare(rest)) {
				t.Fatal(p, l)
			}
		}
	}
}

func TestBound(t *testing.T) {
	for _, x := range []struct {
		p []api.Int
		k int
	}{{of(5), 0}, {of(-2, 0, 1), 2}, {of(-1, 2), 1}, {of(0, 3), 0}, {of(0, 0, -1), 0}, {of(-1, 1), 1}, {of(7, 1), 3}, {of(8, 1), 4}, {of(8, 0, -3), 2}, {of(-9, 0, 3), 2}, {of(-10, 0, 3), 3}} {
		if k := Bound(x.p); k != x.k {
			t.Fatal(x, k)
		}
	}
}

func TestCounted(t *testing.T) {
	r := rand.New(rand.NewSource(1))
	for range 150 {
		var roots []int64
		p := poly.Mul(of(r.Int63n(5)-7), of(3, 1, 1)) // and no real roots
		for range r.Intn(5) {
			n := r.Int63n(33) - 16
			if !slices.Contains(roots, n) {
				roots = append(roots, n)
			}
			p = poly.Mul(p, power(linear(n, 2), 1+r.Intn(2)))
		}
		if All(p) != len(roots) || Count(p, span(-1<<Bound(p), 1<<Bound(p), 0)) != len(roots) {
			t.Fatal("All", p, roots, All(p))
		}
		for range 20 {
			lo, hi := r.Int63n(40)-20, r.Int63n(40)-20
			want, above, sum := 0, 0, 0
			for _, n := range roots {
				if lo < n && n <= hi {
					want++
					sum += min(max(int(n)-3, -1), 1)
					if n == 3 {
						above++
					}
				}
			}
			s := span(lo, hi, 2)
			if Count(p, s) != want {
				t.Fatal(p, roots, lo, hi, Count(p, s))
			}
			q := linear(3, 2)
			if Query(p, q, s) != sum || Query(p, poly.Mul(q, q), s) != want-above || Query(p, of(5), s) != want || Query(p, poly.Scale(q, integer.Of(-2)), s) != -sum || Query(p, nil, s) != 0 || Query(p, poly.Mul(p, q), s) != 0 {
				t.Fatal("Query", p, roots, lo, hi)
			}
			// Root by root a product is the product: the sign of (x - 3/4) (x + 1/2).
			both := 0
			for _, n := range roots {
				if lo < n && n <= hi {
					both += min(max(int(n)-3, -1), 1) * min(max(int(n)+2, -1), 1)
				}
			}
			if Query(p, poly.Mul(q, linear(-2, 2)), s) != both {
				t.Fatal("product", p, roots, lo, hi)
			}
			mid := (lo + hi) / 2
			if lo <= hi && Count(p, span(lo, mid, 2))+Count(p, span(mid, hi, 2)) != want {
				t.Fatal("parts", p, lo, hi)
			}
			moved, twisted := poly.Shift(p, integer.Of(2)), poly.Twist(p, 3)
			if Count(moved, span(lo-8, hi-8, 2)) != want || Count(twisted, span(lo*8, hi*8, 2)) != want {
				t.Fatal("moved", p, lo, hi)
			}
			if m := Count(poly.Mirror(p), span(-hi*2-1, -lo*2-1, 3)); lo <= hi && m != want {
				t.Fatal("mirrored", p, lo, hi, m, want)
			}
		}
	}
}

func TestExamples(t *testing.T) {
	f := of(-2, 0, 1)
	if Count(f, span(1, 2, 0)) != 1 || Count(f, span(-1, 1, 0)) != 0 || Count(of(0, 0, 1), span(-1, 0, 0)) != 1 || Count(of(0, 0, 1), span(0, 1, 0)) != 0 {
		t.Fatal("Count")
	}
	if Query(f, of(0, 1), span(-4, 4, 0)) != 0 || Query(f, of(0, 1), span(0, 4, 0)) != 1 || Count(f, span(2, -2, 0)) != 0 || Query(f, of(1), span(2, 2, 0)) != 0 {
		t.Fatal("Query")
	}
	if All(of(7)) != 0 || Count(of(7), span(-1, 1, 0)) != 0 || Query(of(7), of(1), span(-1, 1, 0)) != 0 {
		t.Fatal("constant")
	}
	f = poly.Mul(of(-2, 0, 1), poly.Mul(of(-2, 0, 1), of(-3, 0, 1)))
	g := poly.Mul(of(-3, 0, 1), of(-5, 0, 0, 1))
	if All(f) != 4 || All(poly.Mul(f, g)) != 5 || All(g) != 3 {
		t.Fatal("in common")
	}
	if far := (api.Span{Lo: dyad.Make(integer.Of(1), -900), Hi: dyad.Make(integer.Of(1), 900)}); Count(of(-2, 0, 1), far) != 1 {
		t.Fatal("far")
	}
}
