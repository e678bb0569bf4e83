package rounded

import (
	"math/rand"
	"reflect"
	"testing"

	"ziggurat/api"
	"ziggurat/decide"
	"ziggurat/expr"
	"ziggurat/format"
	"ziggurat/integer"
	"ziggurat/nat"
	"ziggurat/rat"
	"ziggurat/span"
)

func read(t *testing.T, s string) []api.Node {
	t.Helper()
	e, at, err := expr.Read(s)
	if err == api.OK {
		e, err = expr.Expand(e)
	}
	if err != api.OK {
		t.Fatal(s, at, err)
	}
	return e
}

func frac(n, d int64) api.Rat {
	q, _ := rat.Make(integer.Of(n), integer.Of(d))
	return q
}

func finite(m uint64, e int) api.Float { return api.Float{Kind: api.Finite, Man: nat.Of(m), Exp: e} }
func num(q api.Rat) []api.Node         { return []api.Node{{Op: api.Num, Q: q}} }

var (
	five  = api.Form{Radix: 2, Prec: 5, Low: -20, High: 20}
	one   = api.Form{Radix: 2, Prec: 1, Low: -20, High: 20}
	three = api.Form{Radix: 10, Prec: 3, Low: -20, High: 20}
	small = api.Form{Radix: 2, Prec: 3, Low: -2, High: 1}
	twice = api.Form{Radix: 2, Prec: 53, Low: -1074, High: 971}
)

func TestExamples(t *testing.T) {
	for _, x := range []struct {
		s    string
		way  api.Way
		most int
		want api.Float
		w    int
		err  api.Errno
	}{
		{"sqrt(2)", api.Way{Form: five}, 32, finite(23, -4), 32, api.OK}, {"sqrt(2)^2/8", api.Way{Form: one}, 32, finite(1, -2), 32, api.OK}, {"exp(1)", api.Way{Form: three, Dir: api.Up}, 32, finite(272, -2), 32, api.OK},
		{"sqrt(2)", api.Way{Form: five, Dir: 5}, 32, api.Float{}, 0, api.ErrArg}, {"sqrt(2)", api.Way{Form: five, Dir: -1}, 32, api.Float{}, 0, api.ErrArg}, {"sqrt(2)", api.Way{Form: five}, 31, api.Float{}, 0, api.ErrBudget}, {"sqrt(-2)", api.Way{Form: five}, 64, api.Float{}, 0, api.ErrDomain}, {"1/0", api.Way{Form: five, Dir: 9}, 64, api.Float{}, 0, api.ErrArg}, {"log(pi-pi)", api.Way{Form: five}, 128, api.Float{}, 0, api.ErrBudget}, {"exp(log(2))", api.Way{Form: five, Dir: api.Up}, 1024, api.Float{}, 0, api.ErrBudget}, {"exp(log(2))", api.Way{Form: five}, 32, finite(16, -3), 32, api.OK},
		{"sqrt(2)*sqrt(2)", api.Way{Form: five, Dir: api.Up}, 64, finite(16, -3), 32, api.OK}, {"sqrt(2)*sqrt(2)", api.Way{Form: five, Dir: api.Down}, 64, finite(16, -3), 32, api.OK}, {"-sqrt(2)*sqrt(2)", api.Way{Form: five, Dir: api.ToZero}, 64, api.Float{Kind: api.Finite, Neg: true, Man: nat.Of(16), Exp: -3}, 32, api.OK},
		{"sqrt(2)*sqrt(2)-2", api.Way{Form: five}, 64, api.Float{}, 32, api.OK}, {"sqrt(2)*sqrt(2)+1/16+2", api.Way{Form: five}, 64, finite(16, -2), 32, api.OK}, {"sqrt(2)*sqrt(2)+3/8+2", api.Way{Form: five}, 256, finite(18, -2), 128, api.OK}, {"if 1<2 then sqrt(2)*sqrt(2)+3/8+2 else pi", api.Way{Form: five}, 256, finite(18, -2), 128, api.OK},
		{"sqrt(200)*sqrt(200)", api.Way{Form: small}, 64, api.Float{Kind: api.Inf}, 32, api.OK}, {"sqrt(15)*sqrt(15)", api.Way{Form: small}, 64, api.Float{Kind: api.Inf}, 32, api.OK}, {"sqrt(15)*sqrt(15)", api.Way{Form: small, Dir: api.ToZero}, 64, finite(7, 1), 32, api.OK}, {"sqrt(14)*sqrt(14)", api.Way{Form: small, Dir: api.Up}, 64, finite(7, 1), 32, api.OK}, {"-sqrt(15)*sqrt(15)", api.Way{Form: small, Dir: api.Up}, 64, api.Float{Kind: api.Finite, Neg: true, Man: nat.Of(7), Exp: 1}, 32, api.OK},
		{"sqrt(2)*sqrt(2)/16", api.Way{Form: small}, 64, api.Float{}, 64, api.OK}, {"-sqrt(2)*sqrt(2)/16", api.Way{Form: small}, 64, api.Float{Neg: true}, 64, api.OK}, {"sqrt(2)*sqrt(2)/16", api.Way{Form: small, Dir: api.NearAway}, 64, finite(1, -2), 64, api.OK}, {"0", api.Way{Form: small, Dir: api.Down}, 64, api.Float{}, 32, api.OK},
	} {
		got, w, err := Round(read(t, x.s), x.way, x.most)
		if !same(got, x.want) || w != x.w || err != x.err {
			t.Fatal(x, got, w, err)
		}
	}
}

func TestBreak(t *testing.T) {
	f := small
	inf := api.Float{Kind: api.Inf}
	top := finite(7, 1)
	for _, x := range []struct {
		a, b api.Float
		dir  int
		want string
	}{
		{finite(4, 0), finite(5, 0), api.NearEven, "9/2"}, {finite(4, 0), finite(5, 0), api.NearAway, "9/2"}, {finite(4, 0), finite(5, 0), api.Up, "4"}, {finite(4, 0), finite(5, 0), api.Down, "5"}, {finite(4, 0), finite(5, 0), api.ToZero, "5"},
		{top, inf, api.NearEven, "15"}, {top, inf, api.Up, "14"}, {top, inf, api.Down, "16"}, {api.Float{}, finite(1, -2), api.NearEven, "1/8"}, {api.Float{Neg: true}, finite(1, -2), api.Up, "0"}, {api.Float{Neg: true}, api.Float{}, api.NearEven, "0"}, {inf, inf, api.NearEven, "16"}, {finite(7, 0), finite(4, 1), api.NearEven, "15/2"},
	} {
		q, is := Break(x.a, x.b, api.Way{Form: f, Dir: x.dir})
		if !is || rat.Text(q) != x.want {
			t.Fatal(x, rat.Text(q), is)
		}
		a, b := x.b, x.a
		a.Neg, b.Neg = !a.Neg, !b.Neg
		turned := map[int]int{api.Up: api.Down, api.Down: api.Up}
		dir, other := turned[x.dir]
		if !other {
			dir = x.dir
		}
		if q, is := Break(a, b, api.Way{Form: f, Dir: dir}); !is || rat.Text(rat.Neg(q)) != x.want {
			t.Fatal("turned", x, rat.Text(q), is)
		}
	}
	for _, x := range []struct {
		a, b api.Float
		dir  int
	}{{finite(4, 0), finite(6, 0), 0}, {finite(5, 0), finite(4, 0), 0}, {finite(6, 1), inf, 0}, {inf, top, 0}, {finite(4, 0), finite(5, 0), 5}, {finite(4, 0), finite(5, 0), -1}, {api.Float{}, finite(2, -2), 0}} {
		if q, is := Break(x.a, x.b, api.Way{Form: f, Dir: x.dir}); is || !reflect.DeepEqual(q, api.Rat{}) {
			t.Fatal(x, q)
		}
	}
}

var many = []string{"sqrt(2)", "-sqrt(2)", "pi", "exp(1)-3", "sqrt(2)*sqrt(3)", "root(3,7)-[19/10]", "1/3", "[-7/5]", "0", "sqrt(2)*sqrt(8)", "sin(1)*10", "sqrt(2)*sqrt(8)+[1/8]", "rootof(0;-2,0,1)^2/64", "if pi<3 then 1 else sqrt(9)/7"}

func TestRight(t *testing.T) {
	for _, s := range many {
		e := read(t, s)
		for _, f := range []api.Form{five, one, three, small, twice} {
			for dir := range 5 {
				x, w, err := Round(e, api.Way{Form: f, Dir: dir}, 2048)
				if err != api.OK || !format.Has(f, x) {
					t.Fatal(s, f, dir, err)
				}
				for _, most := range []int{w, 4096} {
					if y, v, err := Round(e, api.Way{Form: f, Dir: dir}, most); err != api.OK || v != w || !same(x, y) {
						t.Fatal("budgets", s, f, dir)
					}
				}
				if _, _, err := Round(e, api.Way{Form: f, Dir: dir}, w-1); err != api.ErrBudget {
					t.Fatal("less", s, f, dir)
				}
				turned := map[int]int{api.Up: api.Down, api.Down: api.Up}
				other, is := turned[dir]
				if !is {
					other = dir
				}
				y, _, err := Round(read(t, "-("+s+")"), api.Way{Form: f, Dir: other}, 2048)
				if z, _, _ := decide.Sign(e, 2048); z != 0 {
					y.Neg = !y.Neg
				}
				if err != api.OK || !same(x, y) {
					t.Fatal("mirrored", s, f, dir, x, y)
				}
				v, is := format.Value(f, x)
				if !is {
					continue
				}
				c, _, err := decide.Cmp(num(v), e, 2048)
				if err != api.OK || dir == api.Down && c > 0 || dir == api.Up && c < 0 {
					t.Fatal("side", s, f, dir, c)
				}
				next, is := format.Value(f, format.Next(f, x))
				if d, _, _ := decide.Cmp(num(next), e, 2048); is && dir == api.Down && d <= 0 {
					t.Fatal("between", s, f, dir)
				}
			}
		}
	}
}

func TestRationals(t *testing.T) {
	r := rand.New(rand.NewSource(1))
	for range 150 {
		q := frac(r.Int63n(4000)-2000, r.Int63n(64)+1)
		for _, f := range []api.Form{five, one, three, small} {
			dir := r.Intn(5)
			x, _, err := Round(num(q), api.Way{Form: f, Dir: dir}, 4096)
			if want, _ := format.Round(q, f, dir); err != api.OK || !same(x, want) {
				t.Fatal(rat.Text(q), f, dir, x, want)
			}
			// The same, hidden by a root: order, and ties.
			e := append([]api.Node{{Op: api.Root, N: 3}, {Op: api.Pow, N: 3}}, num(q)...)
			y, _, err := Round(e, api.Way{Form: f, Dir: dir}, 4096)
			if err != api.OK || !same(x, y) {
				t.Fatal("hidden", rat.Text(q), f, dir, x, y, err)
			}
			p := frac(r.Int63n(4000)-2000, r.Int63n(64)+1)
			if z, _, _ := Round(num(p), api.Way{Form: f, Dir: dir}, 4096); rat.Cmp(p, q) <= 0 && format.Cmp(f, z, x) > 0 {
				t.Fatal("order", rat.Text(p), rat.Text(q))
			}
		}
	}
}

func TestProve(t *testing.T) {
	root := read(t, "sqrt(2)-1")
	p, err := Prove(api.Claim{Kind: api.SignIs, E: root, Sign: 1}, 64)
	want, _ := span.Spans(root, 32)
	if err != api.OK || p.W != 32 || !reflect.DeepEqual(p.Spans, want) {
		t.Fatal(p, err)
	}
	p, err = Prove(api.Claim{Kind: api.RoundIs, E: read(t, "sqrt(2)"), Form: five, F: finite(23, -4)}, 64)
	if err != api.OK || p.W != 32 || len(p.Spans) != 2 {
		t.Fatal(p, err)
	}
	p, err = Prove(api.Claim{Kind: api.SignIs, E: read(t, "sqrt(2)*sqrt(3)-sqrt(6)")}, 64)
	if err != api.OK || p.W != 64 {
		t.Fatal(p, err)
	}
	for i, x := range []struct {
		c    api.Claim
		most int
		want api.Errno
	}{
		{api.Claim{E: root, Sign: 1}, 64, api.ErrArg}, {api.Claim{Kind: 3, E: root}, 64, api.ErrArg}, {api.Claim{Kind: api.SignIs, E: read(t, "if 1<2 then 1 else 2"), Sign: 1}, 64, api.ErrArg}, {api.Claim{Kind: api.RoundIs, E: root, Form: five, Dir: 5}, 64, api.ErrArg},
		{api.Claim{Kind: api.SignIs, E: root, Sign: -1}, 64, api.ErrNone}, {api.Claim{Kind: api.SignIs, E: root, Sign: 5}, 64, api.ErrNone}, {api.Claim{Kind: api.SignIs, E: root, Sign: 1}, 31, api.ErrBudget}, {api.Claim{Kind: api.SignIs, E: read(t, "1/0")}, 64, api.ErrDomain}, {api.Claim{Kind: api.RoundIs, E: root, Form: five, F: finite(23, -4)}, 64, api.ErrNone}, {api.Claim{Kind: api.RoundIs, E: read(t, "log(-1)"), Form: five}, 64, api.ErrDomain}, {api.Claim{Kind: api.RoundIs, E: read(t, "0"), Form: five, F: api.Float{Neg: true}}, 64, api.ErrNone},
	} {
		if p, err := Prove(x.c, x.most); err != x.want || !reflect.DeepEqual(p, api.Proof{}) {
			t.Fatal(i, p, err)
		}
	}
}
