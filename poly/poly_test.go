package poly

import (
	"math/rand"
	"reflect"
	"slices"
	"testing"

	"ziggurat/api"
	"ziggurat/gcd"
	"ziggurat/integer"
	"ziggurat/rat"
)

func of(l ...int64) []api.Int {
	var p []api.Int
	for _, n := range l {
		p = append(p, integer.Of(n))
	}
	return Make(p)
}

func equal(a, b []api.Int) bool {
	return slices.EqualFunc(a, b, func(x, y api.Int) bool { return integer.Cmp(x, y) == 0 })
}

func some(r *rand.Rand, n int) []api.Int {
	p := make([]api.Int, n)
	for i := range p {
		p[i] = integer.Of(r.Int63n(41) - 20)
		if r.Intn(6) == 0 {
			p[i] = integer.Shift(p[i], r.Intn(90))
		}
	}
	return Make(p)
}

func polys() [][]api.Int {
	r := rand.New(rand.NewSource(1))
	l := [][]api.Int{nil, of(1), of(-3), of(0, 1), of(6, -4), of(-1, 0, 1), of(0, 0, 5), of(4, 0, -8, 12)}
	for n := range 9 {
		l = append(l, some(r, n))
	}
	return append(l, some(r, 40))
}

func frac(n, d int64) api.Rat {
	q, _ := rat.Make(integer.Of(n), integer.Of(d))
	return q
}

var points = [][2]int64{{0, 1}, {1, 1}, {-2, 1}, {1, 2}, {-3, 7}}

func at(p []api.Int, q api.Rat) api.Rat {
	v := rat.Whole(api.Int{})
	for _, c := range slices.Backward(p) {
		v = rat.Add(rat.Mul(v, q), rat.Whole(c))
	}
	return v
}

func TestRightMakeDeg(t *testing.T) {
	if !Right(nil) || Right([]api.Int{{}}) || Right([]api.Int{integer.Of(1), {}}) || Right([]api.Int{{Neg: true}, integer.Of(1)}) || !Right(of(0, 1)) {
		t.Fatal("Right")
	}
	if len(Make(make([]api.Int, 3))) != 0 || Deg(nil) != -1 || Deg(of(5)) != 0 || Deg(of(0, 0, 1)) != 2 || !equal(Make([]api.Int{integer.Of(2), {}, {}}), of(2)) {
		t.Fatal("Make")
	}
}

func TestRingAndValues(t *testing.T) {
	l := polys()
	for _, a := range l {
		for _, b := range l {
			s, d, p := Add(a, b), Sub(a, b), Mul(a, b)
			if !Right(s) || !Right(d) || !Right(p) || !equal(p, Mul(b, a)) || len(Sub(s, Add(b, a))) != 0 {
				t.Fatal(a, b)
			}
			for _, x := range points {
				q := frac(x[0], x[1])
				u, v := at(a, q), at(b, q)
				if rat.Cmp(at(s, q), rat.Add(u, v)) != 0 || rat.Cmp(at(d, q), rat.Sub(u, v)) != 0 || rat.Cmp(at(p, q), rat.Mul(u, v)) != 0 {
					t.Fatal("values", a, b)
				}
			}
			left := Add(Mul(Diff(a), b), Mul(a, Diff(b)))
			if !equal(Diff(p), left) || !equal(Diff(s), Add(Diff(a), Diff(b))) {
				t.Fatal("Diff", a, b)
			}
			content := integer.Mul(integer.Make(false, Content(a)), integer.Make(false, Content(b)))
			if !slices.Equal(Content(p), content.Mag) {
				t.Fatal("Content", a, b)
			}
		}
		for _, x := range points {
			q := frac(x[0], x[1])
			if v := Eval(a, q); !rat.Right(v) || rat.Cmp(v, at(a, q)) != 0 || Sign(a, q) != rat.Sign(v) {
				t.Fatal("Eval", a, x)
			}
		}
		for _, c := range []int64{0, 1, -3} {
			if got := Scale(a, integer.Of(c)); !Right(got) || !equal(got, Mul(a, of(c))) {
				t.Fatal("Scale", a, c)
			}
		}
	}
}

func TestLongProducts(t *testing.T) {
	r := rand.New(rand.NewSource(2))
	for _, n := range [][2]int{{32, 32}, {33, 100}, {64, 65}, {150, 40}} {
		a, b := some(r, n[0]), some(r, n[1])
		want := []api.Int(nil)
		for i, x := range a {
			want = Add(want, Make(append(make([]api.Int, i), Scale(b, x)...)))
		}
		if !equal(Mul(a, b), want) || !equal(Mul(b, a), want) {
			t.Fatal(n)
		}
	}
}

func TestContentAndPrim(t *testing.T) {
	for _, p := range polys() {
		q := Prim(p)
		if len(p) == 0 {
			if len(q) != 0 || len(Content(p)) != 0 {
				t.Fatal("0")
			}
			continue
		}
		c := integer.Make(p[len(p)-1].Neg, Content(p))
		if integer.Sign(q[len(q)-1]) != 1 || !slices.Equal(Content(q), []uint32{1}) || !equal(Scale(q, c), p) {
			t.Fatal(p, q)
		}
		for _, x := range p {
			if _, is := integer.Exact(x, c); !is || len(gcd.Gcd(x.Mag, c.Mag)) == 0 {
				t.Fatal(p)
			}
		}
	}
	if !equal(Prim(of(6, -4)), of(-3, 2)) || !equal(Prim(of(-7)), of(1)) {
		t.Fatal("example")
	}
}

func TestTurned(t *testing.T) {
	two := rat.Whole(integer.Of(2))
	for _, p := range polys() {
		for _, x := range points {
			q := frac(x[0], x[1])
			n := max(Deg(p), 0)
			if rat.Cmp(at(Shift(p, integer.Of(-3)), q), at(p, rat.Sub(q, frac(3, 1)))) != 0 || rat.Cmp(at(Mirror(p), q), at(p, rat.Neg(q))) != 0 {
				t.Fatal("Shift, Mirror", p, x)
			}
			up, _ := rat.Pow(two, 5*n)
			small, _ := rat.Div(q, frac(32, 1))
			if rat.Cmp(at(Twist(p, 5), q), rat.Mul(up, at(p, small))) != 0 {
				t.Fatal("Twist", p, x)
			}
			if x[0] != 0 {
				back, _ := rat.Div(frac(1, 1), q)
				power, _ := rat.Pow(q, n)
				if rat.Cmp(at(Turn(p), q), rat.Mul(power, at(p, back))) != 0 {
					t.Fatal("Turn", p, x)
				}
			}
		}
		for _, f := range [][]api.Int{Shift(p, integer.Of(7)), Mirror(p), Twist(p, 3), Turn(p)} {
			if !Right(f) {
				t.Fatal("not right", p, f)
			}
		}
		for _, b := range polys() {
			m := Mul(p, b)
			if !equal(Mirror(m), Mul(Mirror(p), Mirror(b))) || !equal(Turn(m), Mul(Turn(p), Turn(b))) || !equal(Twist(m, 2), Mul(Twist(p, 2), Twist(b, 2))) || !equal(Shift(m, integer.Of(2)), Mul(Shift(p, integer.Of(2)), Shift(b, integer.Of(2)))) {
				t.Fatal("products", p, b)
			}
		}
	}
	if !equal(Twist(of(-2, 0, 1), 3), of(-128, 0, 1)) || !equal(Turn(of(0, 0, 3, 1)), of(1, 3)) || !equal(Twist(of(1, 1), 0), of(1, 1)) {
		t.Fatal("examples")
	}
}

func TestPseudo(t *testing.T) {
	for _, a := range polys() {
		for _, b := range polys() {
			q, r, err := Pseudo(a, b)
			if len(b) == 0 {
				if err != api.ErrZero || q != nil || r != nil {
					t.Fatal("by 0")
				}
				continue
			}
			k := max(Deg(a)-Deg(b)+1, 0)
			left := Scale(a, integer.Pow(b[len(b)-1], k))
			if err != api.OK || !Right(q) || !Right(r) || Deg(r) >= Deg(b) && len(r) > 0 || !equal(left, Add(Mul(q, b), r)) {
				t.Fatal(a, b, q, r)
			}
		}
	}
	q, r, _ := Pseudo(of(1, 0, 1), of(-1, 2))
	if !equal(q, of(1, 2)) || !equal(r, of(5)) {
		t.Fatal("example", q, r)
	}
}

func TestDiv(t *testing.T) {
	for _, a := range polys() {
		for _, b := range polys() {
			if q, is := Div(Mul(a, b), b); is != (len(b) > 0) || is && !equal(q, a) || !is && q != nil {
				t.Fatal(a, b)
			}
		}
	}
	for _, x := range [][2][]api.Int{{of(1, 1), of(0, 2)}, {of(1, 0, 1), of(1, 1)}, {of(1), of(2)}, {of(5), of(0, 1)}, {of(1, 2), nil}, {nil, nil}, {of(2, 1), of(2)}} {
		if q, is := Div(x[0], x[1]); is || !reflect.DeepEqual(q, []api.Int(nil)) {
			t.Fatal(x, q)
		}
	}
	if q, is := Div(nil, of(3, 1)); !is || len(q) != 0 {
		t.Fatal("0 by something")
	}
}
