package kernel

import (
	"math"
	"math/rand"
	"os"
	"slices"
	"strings"
	"testing"

	"ziggurat/api"
	"ziggurat/decide"
	"ziggurat/div"
	"ziggurat/dyad"
	"ziggurat/expr"
	"ziggurat/factor"
	"ziggurat/gcd"
	"ziggurat/integer"
	"ziggurat/mul"
	"ziggurat/nat"
	"ziggurat/poly"
	"ziggurat/rat"
	"ziggurat/root"
	"ziggurat/rounded"
	"ziggurat/span"
	"ziggurat/sturm"
)

func read(t *testing.T, s string) []api.Node {
	t.Helper()
	e, at, err := expr.Read(s)
	if err == api.OK {
		e, err = expr.Expand(e)
	}
	if err != api.OK {
		t.Fatal(s, at, err)
	}
	return e
}

func ints(l ...int64) []api.Int {
	var p []api.Int
	for _, n := range l {
		p = append(p, integer.Of(n))
	}
	return p
}

func spans(l ...int64) [][2]api.Int {
	var out [][2]api.Int
	for i := 0; i < len(l); i += 2 {
		out = append(out, [2]api.Int{integer.Of(l[i]), integer.Of(l[i+1])})
	}
	return out
}

func TestImports(t *testing.T) {
	may := " api integer rat poly split modp format expr "
	files, _ := os.ReadDir(".")
	for _, f := range files {
		text, _ := os.ReadFile(f.Name())
		for _, l := range strings.Split(string(text), "\n") {
			if name, is := strings.CutPrefix(strings.TrimSpace(l), `"ziggurat/`); is && !strings.HasSuffix(f.Name(), "_test.go") && !strings.Contains(may, " "+strings.Trim(name, `"`)+" ") {
				t.Fatal(f.Name(), l)
			}
		}
	}
}

var many = []string{"sqrt(2)-1", "[1/3]-[1/3]", "sqrt(2)*sqrt(3)-sqrt(6)", "1/(sqrt(5)-2)", "root(3,sqrt(7)-5)^5", "root(5,-100)-root(4,3)", "exp(1)-[13/10]", "exp(-3)*100", "exp(0)", "log(3)", "log(1/3)", "log(sqrt(2)^2/2)", "log(exp(2))", "sin(1)", "cos(1)", "sin(0)+cos(0)", "sin(100)*cos(-30)", "tan(1)", "tan(-10)", "atan(1)", "atan(-7)", "atan(1/7)+atan(0)", "atan(1000000)", "pi", "pi^2-10", "rootof(1;-2,0,1)", "rootof(2;1,-3,0,1)", "rootof(0;0,0,1)", "rootof(1;4,-4,-3,2,1)", "rootof(0;-3,4)^-3", "(sqrt(2)-2)^3/(pi^2-9)", "(sqrt(2)-[3/2])^4", "(-sqrt(2))^0", "sqrt(2)^64", "0", "-7/3", "exp(sin(pi/5)*log(7))", "sqrt(5+2*sqrt(6))-sqrt(2)-sqrt(3)", "root(1,pi)", "(sqrt(2)-sqrt(2))^2+1", "exp(100)/exp(99)", "log([1/1000000007])"}

func TestSpansAreTaken(t *testing.T) {
	for _, s := range many {
		e := read(t, s)
		for _, w := range []int{1, 5, 17, 32, 64, 100, 256} {
			l, err := span.Spans(e, w)
			if err != api.OK {
				continue
			}
			p := api.Proof{W: w, Spans: l}
			if !taken(func() { check(e, p) }) {
				t.Fatal(s, w, l)
			}
			for i := range l {
				for end := range 2 {
					// One less is never taken, but where the span is 0; one more is for this node.
					less, more := slices.Clone(l), slices.Clone(l)
					one := integer.Of(int64(1 - 2*end))
					less[i][end], more[i][end] = integer.Add(l[i][end], one), integer.Sub(l[i][end], one)
					if taken(func() { check(e, api.Proof{W: w, Spans: less}) }) && integer.Cmp(less[i][0], less[i][1]) <= 0 {
						if b, is := apart(e[i : i+1]); !is || w < b { // of one node alone the test of 0 may take a narrower one around 0
							if !(integer.Sign(less[i][0]) <= 0 && integer.Sign(less[i][1]) >= 0) {
								t.Fatal("narrower", s, w, i, end)
							}
						}
					}
					if i == 0 && !taken(func() { check(e, api.Proof{W: w, Spans: more}) }) {
						t.Fatal("wider", s, w, i, end)
					}
				}
			}
		}
	}
}

func TestProofsAreTaken(t *testing.T) {
	forms := []api.Form{{Radix: 2, Prec: 5, Low: -20, High: 20}, {Radix: 10, Prec: 3, Low: -9, High: 9}, {Radix: 2, Prec: 53, Low: -1074, High: 971}, {Radix: 2, Prec: 2, Low: -1, High: 0}}
	for _, s := range many {
		e := read(t, s)
		sign, w, err := decide.Sign(e, 512)
		if err != api.OK {
			t.Fatal(s, err)
		}
		c := api.Claim{Kind: api.SignIs, E: e, Sign: sign}
		p, err := rounded.Prove(c, 512)
		if err != api.OK || p.W != w || !Check(c, p) {
			t.Fatal("sign", s, err)
		}
		for other := -2; other < 3; other++ {
			if c.Sign = other; other != sign && Check(c, p) {
				t.Fatal("another sign", s, other)
			}
		}
		for _, f := range forms {
			for dir := range 5 {
				x, w, err := rounded.Round(e, api.Way{Form: f, Dir: dir}, 2048)
				if err != api.OK {
					continue
				}
				c := api.Claim{Kind: api.RoundIs, E: e, Form: f, Dir: dir, F: x}
				p, err := rounded.Prove(c, 2048)
				if err != api.OK || p.W != w || !Check(c, p) {
					t.Fatal("round", s, f, dir, x, err)
				}
				y := x
				y.Neg = !y.Neg
				if c.F = y; Check(c, p) {
					t.Fatal("another sign", s, f, dir)
				}
				if y = x; y.Kind == api.Finite {
					y.Man = nat.Add(y.Man, []uint32{1})
					if c.F = y; Check(c, p) {
						t.Fatal("another float", s, f, dir)
					}
				}
				c.F, c.Dir = x, 5
				if Check(c, p) {
					t.Fatal("no direction")
				}
				c.Dir, c.Form.Radix = dir, 3
				if Check(c, p) {
					t.Fatal("no format")
				}
			}
		}
	}
}

func TestForged(t *testing.T) {
	e := read(t, "sqrt(2)-1")
	c := api.Claim{Kind: api.SignIs, E: e, Sign: 1}
	good := api.Proof{W: 4, Spans: spans(6, 7, 22, 23, 32, 32, 16, 16)}
	if !Check(c, good) {
		t.Fatal("example")
	}
	for i, p := range []api.Proof{{}, {W: 4}, {W: 0, Spans: good.Spans}, {W: -3, Spans: good.Spans}, {W: 65537, Spans: good.Spans}, {W: 5, Spans: good.Spans}, {W: 4, Spans: good.Spans[:3]}, {W: 4, Spans: append(slices.Clone(good.Spans), good.Spans[0])}, {W: 4, Spans: spans(7, 6, 22, 23, 32, 32, 16, 16)}, {W: 4, Spans: spans(7, 7, 22, 23, 32, 32, 16, 16)}, {W: 4, Spans: spans(8, 9, 24, 25, 32, 32, 16, 16)}, {W: 4, Spans: spans(6, 7, 22, 23, 32, 32, 15, 15)}, {W: 4, Spans: [][2]api.Int{{integer.Of(6), integer.Of(7)}, {integer.Of(22), {Mag: []uint32{23, 0}}}, {integer.Of(32), integer.Of(32)}, {integer.Of(16), integer.Of(16)}}}} {
		if Check(c, p) {
			t.Fatal(i)
		}
	}
	if !Check(c, api.Proof{W: 4, Spans: spans(1, 900, 20, 24, 30, 33, 15, 19)}) {
		t.Fatal("wider")
	}
	if !Check(api.Claim{Kind: api.SignIs, E: read(t, "1/3-1/3")}, api.Proof{W: 64, Spans: must2(span.Spans(read(t, "1/3-1/3"), 64))}) || !Check(api.Claim{Kind: api.SignIs, E: read(t, "[1/3]-[1/3]")}, api.Proof{W: 5, Spans: spans(0, 0, 10, 11, 10, 11)}) {
		t.Fatal("example of 0")
	}
	if Check(api.Claim{Kind: api.SignIs, E: read(t, "pi-pi")}, api.Proof{W: 5, Spans: spans(0, 0, 100, 101, 100, 101)}) || Check(api.Claim{Kind: api.SignIs, E: read(t, "[1/3]-[1/3]")}, api.Proof{W: 3, Spans: spans(0, 0, 2, 3, 2, 3)}) {
		t.Fatal("0 is not shown")
	}
	for i, c := range []api.Claim{{}, {Kind: 1}, {Kind: 3, E: e, Sign: 1}, {E: e, Sign: 1}, {Kind: 1, E: e[1:], Sign: 1}, {Kind: 1, E: []api.Node{{Op: 99}}}, {Kind: 1, E: append(e, e...), Sign: 1}, {Kind: 2, E: e}} {
		if Check(c, good) {
			t.Fatal(i)
		}
	}
	for _, s := range []string{"x", "if 1<2 then 1 else 2", "let y=1 in y", "sum(i,1,1;i)"} {
		e, _, _ := expr.Read(s)
		if Check(api.Claim{Kind: api.SignIs, E: e, Sign: 1}, api.Proof{W: 4, Spans: slices.Repeat(spans(16, 32), len(e))}) {
			t.Fatal(s)
		}
	}
	// Where the table tells an error nothing is taken.
	for s, l := range map[string][][2]api.Int{"1/0": spans(1, 1, 16, 16, 0, 0), "1/sqrt(2)": spans(1, 99, 16, 16, -1, 99, 32, 32), "sqrt(-1)": spans(1, 99, -16, -16), "sqrt(pi)": spans(1, 99, -1, 99), "log(pi)": spans(-99, 99, 0, 99), "exp(9999)": spans(1, 1<<40, 9999*16, 9999*16), "rootof(0;1,0,1)": spans(1, 99), "0^-1": spans(1, 99, 0, 0), "tan(pi)": spans(-999, 999, 0, 99)} {
		if Check(api.Claim{Kind: api.SignIs, E: read(t, s), Sign: 1}, api.Proof{W: 4, Spans: l}) {
			t.Fatal(s)
		}
	}
}

func must2(l [][2]api.Int, err api.Errno) [][2]api.Int { return l }

func TestNothingFalseIsTaken(t *testing.T) {
	r := rand.New(rand.NewSource(1))
	for _, s := range many {
		e := read(t, s)
		sign, _, err := decide.Sign(e, 1024)
		l, err2 := span.Spans(e, 24)
		if err != api.OK || err2 != api.OK {
			continue
		}
		for range 150 {
			forged := slices.Clone(l)
			for range 1 + r.Intn(3) {
				i, end := r.Intn(len(forged)), r.Intn(2)
				forged[i][end] = integer.Add(forged[i][end], integer.Of(r.Int63n(1<<r.Intn(26))-1<<r.Intn(25)))
			}
			for claim := -1; claim <= 1; claim++ {
				if claim != sign && Check(api.Claim{Kind: api.SignIs, E: e, Sign: claim}, api.Proof{W: 24, Spans: forged}) {
					t.Fatal(s, sign, claim, forged)
				}
			}
		}
	}
}

func some(r *rand.Rand, n int) []uint32 {
	a := make([]uint32, n)
	for i := range a {
		a[i] = r.Uint32()
	}
	return nat.Make(a)
}

func TestArithmetic(t *testing.T) {
	r := rand.New(rand.NewSource(2))
	wrong := api.Int{Mag: []uint32{1, 0}}
	one := integer.Of(1)
	for n := range 60 {
		a, b := integer.Make(n%2 == 0, some(r, n%7)), integer.Make(n%3 == 0, some(r, n%4))
		c := integer.Mul(a, b)
		if !Product(a, b, c) || Product(a, b, integer.Add(c, one)) || integer.Sign(c) != 0 && Product(a, b, integer.Neg(c)) || Product(a, b, wrong) || Product(wrong, b, c) || Product(a, wrong, c) {
			t.Fatal("Product", a, b)
		}
		q, rest, err := integer.DivMod(a, b)
		if Quotient(a, b, [2]api.Int{q, rest}) != (err == api.OK) {
			t.Fatal("Quotient", a, b)
		}
		if err == api.OK && (Quotient(a, b, [2]api.Int{integer.Add(q, one), integer.Sub(rest, b)}) || Quotient(a, b, [2]api.Int{integer.Sub(q, one), integer.Add(rest, b)}) || Quotient(a, b, [2]api.Int{q, wrong})) {
			t.Fatal("another quotient", a, b)
		}
		x, y := mul.Mul(a.Mag, some(r, 2)), mul.Mul(b.Mag, some(r, 1))
		g, u, v := gcd.Ext(x, y)
		if !Cofactors(x, y, api.Cofactor{G: g, U: u, V: v}) || Cofactors(x, y, api.Cofactor{G: nat.Add(g, []uint32{1}), U: u, V: v}) || len(x) > 0 && Cofactors(x, y, api.Cofactor{G: g, U: integer.Add(u, one), V: v}) || Cofactors(x, y, api.Cofactor{G: append(slices.Clone(g), 0), U: u, V: v}) {
			t.Fatal("Cofactors", x, y)
		}
		for _, k := range []int{1, 2, 3, 7, 100, 1000000} {
			z, _ := root.Root(x, k)
			less, is := nat.Sub(z, []uint32{1})
			if !Root(x, k, z) || Root(x, k, nat.Add(z, []uint32{1})) || is && Root(x, k, less) || Root(x, 0, z) || Root(x, -1, z) || Root(append(slices.Clone(x), 0), k, z) {
				t.Fatal("Root", x, k, z)
			}
		}
	}
	if !Cofactors(nil, nil, api.Cofactor{}) || Cofactors(nil, nil, api.Cofactor{G: []uint32{1}, U: one}) || Cofactors([]uint32{4}, []uint32{6}, api.Cofactor{G: []uint32{4}, U: one}) || !Cofactors([]uint32{12}, []uint32{18}, api.Cofactor{G: []uint32{6}, U: integer.Of(-1), V: one}) || Cofactors([]uint32{5}, nil, api.Cofactor{}) {
		t.Fatal("Cofactors")
	}
	if !Root(nil, math.MaxInt, nil) || !Root([]uint32{5}, math.MaxInt, []uint32{1}) || Root([]uint32{5}, math.MaxInt, []uint32{2}) || Root(nil, 3, []uint32{1}) || Root([]uint32{1}, math.MaxInt, nil) {
		t.Fatal("Root")
	}
	if q, rest, _ := div.DivMod([]uint32{7}, []uint32{2}); !Quotient(integer.Of(7), integer.Of(2), [2]api.Int{integer.Make(false, q), integer.Make(false, rest)}) || !Quotient(integer.Of(-7), integer.Of(-2), [2]api.Int{integer.Of(4), integer.Of(1)}) || Quotient(integer.Of(0), integer.Of(0), [2]api.Int{}) {
		t.Fatal("Quotient")
	}
}

func TestFactors(t *testing.T) {
	primes := []uint32{2, 3, 5, 7, 11, 13, 17, 19}
	for _, f := range [][]api.Int{ints(0, -6, 12, -6), ints(4, 0, 0, 0, 1), ints(5), ints(-7), ints(1, 1, 1, 1, 1), poly.Mul(ints(-2, 0, 0, 1), ints(-3, 0, 1)), poly.Mul(ints(1, 2, 3), poly.Mul(ints(1, 2, 3), ints(-6, 0, 0, 15)))} {
		c, l, _ := factor.Factor(f)
		witness := api.Factoring{C: c, L: l}
		for _, x := range l {
			var may []uint32
			for _, p := range primes {
				if sums(x.P, p) != nil {
					may = append(may, p)
				}
			}
			witness.Primes = append(witness.Primes, may)
		}
		if !Factors(f, witness) {
			t.Fatal(f, witness)
		}
		bad := witness
		if bad.C = integer.Neg(c); Factors(f, bad) {
			t.Fatal("content", f)
		}
		bad = witness
		if bad.Primes = append(slices.Clone(witness.Primes), nil); Factors(f, bad) {
			t.Fatal("primes", f)
		}
		if len(l) == 0 {
			continue
		}
		bad.Primes = slices.Clone(witness.Primes)
		if bad.Primes[0] = []uint32{4}; Factors(f, bad) {
			t.Fatal("no prime", f)
		}
		bad.Primes[0] = append(slices.Clone(witness.Primes[0]), 65537)
		if Factors(f, bad) {
			t.Fatal("no prime that may be", f)
		}
		bad = witness
		if bad.L = append(slices.Clone(l[1:]), api.Factor{P: l[0].P, K: l[0].K + 1}); Factors(f, bad) {
			t.Fatal("K", f)
		}
		if bad.L = append(slices.Clone(l[1:]), api.Factor{P: l[0].P, K: math.MaxInt}); Factors(f, bad) {
			t.Fatal("K", f)
		}
	}
	f := ints(-1, 0, 1)
	for i, c := range []api.Factoring{
		{C: integer.Of(1), L: []api.Factor{{P: f, K: 1}}, Primes: [][]uint32{primes[1:]}},                               // not irreducible
		{C: integer.Of(1), L: []api.Factor{{P: f, K: 1}}, Primes: [][]uint32{nil}},                                      // not shown
		{C: integer.Of(-1), L: []api.Factor{{P: ints(1, -1), K: 1}, {P: ints(1, 1), K: 1}}, Primes: [][]uint32{{}, {}}}, // a lead below 0
		{C: integer.Of(1), L: []api.Factor{{P: ints(1), K: 1}, {P: ints(-1, 1), K: 1}, {P: ints(1, 1), K: 1}}, Primes: [][]uint32{{}, {}, {}}},
		{C: integer.Of(1), L: []api.Factor{{P: ints(-1, 1), K: 1}}, Primes: [][]uint32{{}}},
		{C: api.Int{Neg: true}, L: nil, Primes: nil},
	} {
		if Factors(f, c) {
			t.Fatal(i)
		}
	}
	if !Factors(f, api.Factoring{C: integer.Of(1), L: []api.Factor{{P: ints(-1, 1), K: 1}, {P: ints(1, 1), K: 1}}, Primes: [][]uint32{nil, {2}}}) {
		t.Fatal("x^2 - 1")
	}
	square := ints(1, 2, 1)
	if Factors(square, api.Factoring{C: integer.Of(1), L: []api.Factor{{P: ints(1, 1), K: 1}, {P: ints(1, 1), K: 1}}, Primes: [][]uint32{nil, nil}}) {
		t.Fatal("twice the same")
	}
	if Factors(nil, api.Factoring{}) || Factors([]api.Int{{}}, api.Factoring{}) {
		t.Fatal("0")
	}
	// x^4 + 1 splits modulo each prime: it can't be shown so.
	if Factors(ints(1, 0, 0, 0, 1), api.Factoring{C: integer.Of(1), L: []api.Factor{{P: ints(1, 0, 0, 0, 1), K: 1}}, Primes: [][]uint32{primes}}) {
		t.Fatal("x^4 + 1")
	}
	// Modulo 2 and modulo 3 it has other degrees each time.
	if f := ints(6, 1, 0, 0, 1); factor.Irreducible(f) && noDegreeLeft(f, primes) != Factors(f, api.Factoring{C: integer.Of(1), L: []api.Factor{{P: f, K: 1}}, Primes: [][]uint32{primes}}) {
		t.Fatal("x^4 + x + 6")
	}
}

func TestVariations(t *testing.T) {
	at := func(n int64, e int) api.Dyad { return dyad.Make(integer.Of(n), e) }
	r := rand.New(rand.NewSource(3))
	for _, p := range [][]api.Int{ints(-2, 0, 1), ints(0, 0, 0, -3), ints(5), ints(0, 4, 0, -5, 0, 1), ints(1, -3, 0, 1), ints(2, -1), poly.Mul(ints(-1, 0, 2), ints(-1, 0, 2))} {
		l := sturm.Chain(p)
		for range 40 {
			s := api.Span{Lo: at(r.Int63n(33)-16, -r.Intn(4)), Hi: at(r.Int63n(33)-16, r.Intn(2)-2)}
			n := sturm.Count(p, s)
			if !Variations(p, api.Counting{S: s, Chain: l, N: n}) || Variations(p, api.Counting{S: s, Chain: l, N: n + 1}) || Variations(p, api.Counting{S: s, Chain: l, N: -1}) {
				t.Fatal(p, s, n)
			}
			scaled := slices.Clone(l)
			i := r.Intn(len(l))
			if scaled[i] = poly.Scale(l[i], integer.Of(7)); !Variations(p, api.Counting{S: s, Chain: scaled, N: n}) {
				t.Fatal("multiple", p, i)
			}
			if scaled[i] = poly.Scale(l[i], integer.Of(-1)); Variations(p, api.Counting{S: s, Chain: scaled, N: n}) {
				t.Fatal("the other sign", p, i)
			}
			if Variations(p, api.Counting{S: s, Chain: l[:len(l)-1], N: n}) || Variations(p, api.Counting{S: s, Chain: append(slices.Clone(l), ints(1)), N: n}) || Variations(p, api.Counting{S: s, N: n}) {
				t.Fatal("longer, shorter", p)
			}
			scaled[i] = append(slices.Clone(l[i]), api.Int{})
			if Variations(p, api.Counting{S: s, Chain: scaled, N: n}) {
				t.Fatal("not right", p)
			}
		}
		wide := api.Span{Lo: at(-1, 9), Hi: at(1, 9)}
		for i, s := range []api.Span{{Lo: api.Dyad{Exp: 1}, Hi: wide.Hi}, {Lo: wide.Lo, Hi: api.Dyad{Man: integer.Of(2)}}, {Lo: api.Dyad{Man: integer.Of(1), Exp: 100001}, Hi: wide.Hi}} {
			if Variations(p, api.Counting{S: s, Chain: l, N: sturm.Count(p, wide)}) {
				t.Fatal(i)
			}
		}
	}
	if Variations(nil, api.Counting{}) || Variations([]api.Int{{}}, api.Counting{Chain: [][]api.Int{{{}}}}) {
		t.Fatal("0")
	}
	if !Variations(ints(5), api.Counting{Chain: [][]api.Int{ints(3)}}) {
		t.Fatal("a constant")
	}
}

func TestGreatNumbers(t *testing.T) {
	q := rat.Whole(integer.Shift(integer.Of(3), 5000))
	e := []api.Node{{Op: api.Func, N: api.Log}, {Op: api.Num, Q: q}}
	for _, s := range []string{"log", "atan"} {
		if s == "atan" {
			e[0].N = api.Atan
		}
		l, err := span.Spans(e, 64)
		if err != api.OK || !Check(api.Claim{Kind: api.SignIs, E: e, Sign: 1}, api.Proof{W: 64, Spans: l}) {
			t.Fatal(s, err)
		}
		for end := range 2 {
			forged := slices.Clone(l)
			forged[0][end] = integer.Add(forged[0][end], integer.Of(int64(1-2*end)))
			if Check(api.Claim{Kind: api.SignIs, E: e, Sign: 1}, api.Proof{W: 64, Spans: forged}) {
				t.Fatal("narrower", s, end)
			}
		}
		far := slices.Clone(l)
		far[0] = [2]api.Int{integer.Of(1), integer.Shift(integer.Of(1), 90000)}
		if !Check(api.Claim{Kind: api.SignIs, E: e, Sign: 1}, api.Proof{W: 64, Spans: far}) {
			t.Fatal("far", s)
		}
	}
	wide := read(t, "exp(1)*sin(2)-sqrt(3)*log(7)+atan(3)*rootof(0;-2,0,0,1)")
	l, err := span.Spans(wide, 8192)
	if err != api.OK || !taken(func() { check(wide, api.Proof{W: 8192, Spans: l}) }) {
		t.Fatal("wide", err)
	}
}
