package digits

import (
	"math"
	"math/rand"
	"reflect"
	"strconv"
	"strings"
	"testing"

	"ziggurat/alg"
	"ziggurat/api"
	"ziggurat/decide"
	"ziggurat/expr"
	"ziggurat/format"
	"ziggurat/integer"
	"ziggurat/nat"
	"ziggurat/poly"
	"ziggurat/rat"
)

func read(t *testing.T, s string) []api.Node {
	t.Helper()
	e, at, err := expr.Read(s)
	if err == api.OK {
		e, err = expr.Expand(e)
	}
	if err != api.OK {
		t.Fatal(s, at, err)
	}
	return e
}

func finite(m uint64, e int) api.Float { return api.Float{Kind: api.Finite, Man: nat.Of(m), Exp: e} }

func same(a, b api.Float) bool {
	return a.Kind == b.Kind && a.Neg == b.Neg && a.Exp == b.Exp && nat.Cmp(a.Man, b.Man) == 0
}

var double = api.Form{Radix: 2, Prec: 53, Low: -1074, High: 971}

func TestDecimal(t *testing.T) {
	for _, x := range []struct {
		s       string
		n, most int
		want    string
		w       int
		err     api.Errno
	}{
		{"sqrt(2)", 4, 64, "1.4142", 32, api.OK}, {"-sqrt(2)", 1, 64, "-1.5", 32, api.OK}, {"pi", 0, 64, "3", 32, api.OK}, {"-pi", 0, 64, "-4", 32, api.OK}, {"0", 3, 64, "0.000", 32, api.OK}, {"0", 0, 64, "0", 32, api.OK}, {"[1/100]", 1, 64, "0.0", 32, api.OK}, {"[-1/100]", 1, 64, "-0.1", 32, api.OK}, {"[-1/100]", 2, 64, "-0.01", 32, api.OK}, {"1234", 2, 64, "1234.00", 32, api.OK}, {"sqrt(2)*sqrt(2)", 3, 64, "2.000", 32, api.OK},
		{"pi", 20, 1024, "3.14159265358979323846", 128, api.OK}, {"pi", -1, 64, "", 0, api.ErrArg}, {"pi", 4097, 64, "", 0, api.ErrArg}, {"1/0", 4097, 64, "", 0, api.ErrArg}, {"1/0", 3, 64, "", 0, api.ErrDomain}, {"pi", 20, 64, "", 0, api.ErrBudget}, {"exp(log(2))", 3, 512, "", 0, api.ErrBudget},
	} {
		got, w, err := Decimal(read(t, x.s), x.n, x.most)
		if got != x.want || w != x.w || err != x.err {
			t.Fatal(x, got, w, err)
		}
	}
	for _, s := range []string{"pi", "sqrt(2)", "exp(3)", "-pi", "[1/7]"} {
		long, _, _ := Decimal(read(t, s), 60, 1024)
		for n := 1; n < 60; n += 7 {
			short, _, _ := Decimal(read(t, s), n, 1024)
			if s[0] != '-' && !strings.HasPrefix(long, short) {
				t.Fatal("more digits", s, long, short)
			}
			q, _, _ := rat.Read(strings.Replace(short, ".", "", 1) + "/1" + strings.Repeat("0", n))
			up, _, _ := rat.Read("1/1" + strings.Repeat("0", n))
			below, _, _ := decide.Cmp([]api.Node{{Op: api.Num, Q: q}}, read(t, s), 1024)
			above, _, _ := decide.Cmp([]api.Node{{Op: api.Num, Q: rat.Add(q, up)}}, read(t, s), 1024)
			if below > 0 || above <= 0 {
				t.Fatal("between", s, short)
			}
		}
	}
	if s, _, err := Decimal(read(t, "pi"), 4096, 65536); err != api.OK || len(s) != 4098 {
		t.Fatal(len(s), err)
	}
}

// slow looks for the shortest decimal among all.
func slow(x api.Float, f api.Form) string {
	v, _ := format.Value(f, x)
	best, text := scaled{}, ""
	n := near{value: v}
	for d := 1; best.m == nil; d++ {
		for k := -9; k < 9; k++ {
			for m := int(math.Pow10(d - 1)); m < int(math.Pow10(d)); m++ {
				s := scaled{nat.Of(uint64(m)), k}
				if y, _ := format.Round(s.value(), f, api.NearEven); same(x, y) && (best.m == nil || n.better(s, best)) {
					best = s
					text = strconv.Itoa(m)
					if k != 0 {
						text += "e" + strconv.Itoa(k)
					}
				}
			}
		}
	}
	return text
}

func TestShortest(t *testing.T) {
	for _, f := range []api.Form{{Radix: 2, Prec: 3, Low: -4, High: 4}, {Radix: 10, Prec: 1, Low: -2, High: 2}, {Radix: 10, Prec: 2, Low: -1, High: 1}, {Radix: 2, Prec: 1, Low: -6, High: 6}, {Radix: 2, Prec: 5, Low: -2, High: 1}} {
		for x := format.Next(f, api.Float{}); x.Kind == api.Finite; x = format.Next(f, x) {
			s, err := Shortest(x, f)
			if want := slow(x, f); err != api.OK || s != want {
				t.Fatal(f, x, s, want)
			}
			y, at, err := Read(s, f, api.NearEven)
			if err != api.OK || at != 0 || !same(x, y) {
				t.Fatal("back", f, x, s)
			}
			x.Neg = true
			if minus, _ := Shortest(x, f); minus != "-"+s {
				t.Fatal("sign", minus)
			}
			x.Neg = false
		}
	}
	r := rand.New(rand.NewSource(1))
	for i := range 400 {
		v := math.Float64frombits(r.Uint64() &^ (1 << 63))
		if i < 20 {
			v = []float64{5e-324, 1e-323, 2.2250738585072014e-308, 1, 0.1, 1e23, 9007199254740993, 1.7976931348623157e308, 100, 1e22, 123456, 0.3, 2, 4.35, 5e15, 1e21, 2.2250738585072011e-308, 8.41e21, 9.5367431640625e-7, 1.5}[i]
		}
		if math.IsNaN(v) || math.IsInf(v, 0) || v == 0 {
			continue
		}
		m, e := math.Frexp(v)
		e = max(e-53, -1074)
		x := finite(uint64(math.Ldexp(math.Ldexp(m, 0), 53)), e)
		if e == -1074 {
			x = finite(math.Float64bits(v), -1074)
			if v >= 2.2250738585072014e-308 {
				x = finite(uint64(math.Ldexp(m, 53)), e)
			}
		}
		s, err := Shortest(x, double)
		if err != api.OK {
			t.Fatal(v, x, err)
		}
		back, _ := strconv.ParseFloat(s, 64)
		want := strconv.FormatFloat(v, 'e', -1, 64)
		digits, _, _ := strings.Cut(strings.Replace(want, ".", "", 1), "e")
		mine, _, _ := strings.Cut(s, "e")
		if back != v || len(strings.TrimRight(mine, "0")) > len(strings.TrimRight(digits, "0")) {
			t.Fatal(v, s, want)
		}
	}
	five := api.Form{Radix: 2, Prec: 5, Low: -9, High: 9}
	for s, x := range map[string]api.Float{"144e-2": finite(23, -4), "0": {}, "-0": {Neg: true}, "inf": {Kind: api.Inf}, "-inf": {Kind: api.Inf, Neg: true}} {
		if got, err := Shortest(x, five); err != api.OK || got != s {
			t.Fatal(s, got)
		}
	}
	for _, x := range []api.Float{finite(5, 0), {Kind: 7}, finite(40, 0), {Kind: api.Inf, Exp: 1}} {
		if s, err := Shortest(x, five); err != api.ErrArg || s != "" {
			t.Fatal(x)
		}
	}
	if s, err := Shortest(api.Float{}, api.Form{}); err != api.ErrArg || s != "" {
		t.Fatal("no format")
	}
	far := api.Form{Radix: 2, Prec: 4096, Low: -100000, High: 100000}
	for _, e := range []int{-100000, 0, 100000} {
		x := api.Float{Kind: api.Finite, Man: nat.Add(nat.Shl([]uint32{1}, 4095), []uint32{7}), Exp: e}
		s, err := Shortest(x, far)
		if y, _, err2 := Read(s, far, api.NearEven); err != api.OK || err2 != api.OK || !same(x, y) {
			t.Fatal("far", e, err, err2)
		}
	}
}

func TestRead(t *testing.T) {
	f := api.Form{Radix: 10, Prec: 3, Low: -5, High: 5}
	for s, want := range map[string]api.Float{"1": finite(100, -2), "1.5": finite(150, -2), "0012.50e1": finite(125, 0), "-inf": {Kind: api.Inf, Neg: true}, "inf": {Kind: api.Inf}, "0": {}, "-0.00e99": {Neg: true}, "1e-9": {}, "-1e-9": {Neg: true}, "1234e99999": {Kind: api.Inf}, "0e100000": {}, "1e-100000": {}, "1e000000005": finite(100, 3), "7e-0": finite(700, -2)} {
		x, at, err := Read(s, f, api.NearEven)
		if err != api.OK || at != 0 || !same(x, want) {
			t.Fatal(s, x, at, err)
		}
	}
	for s, at := range map[string]int{"": 0, "-": 1, "+1": 0, ".5": 0, "1.": 2, "1.x": 2, "1e": 2, "1e-": 3, "1e+5": 2, "in": 2, "inx": 2, "infx": 3, "i": 1, "-x": 1, "1 ": 1, "1.5.5": 3, "1e5e": 3, "--1": 1, "1e5.0": 3, "Inf": 0, "1e-x": 3, "1.5e999999x": 10, "nan": 0} {
		if x, place, err := Read(s, f, api.NearEven); err != api.ErrDigit || place != at || !reflect.DeepEqual(x, api.Float{}) {
			t.Fatal(s, place, err)
		}
	}
	for _, s := range []string{"1e100001", "1e-100001", "0e100001", "1e99999999999999999999999999", strings.Repeat("1", 20001), strings.Repeat("x", 20001)} {
		if x, place, err := Read(s, f, api.NearEven); err != api.ErrBig || place != 0 || !reflect.DeepEqual(x, api.Float{}) {
			t.Fatal(s[:5], place, err)
		}
	}
	for _, x := range []struct {
		f   api.Form
		dir int
	}{{api.Form{}, 0}, {f, 5}, {f, -1}} {
		if y, place, err := Read("?", x.f, x.dir); err != api.ErrArg || place != 0 || !reflect.DeepEqual(y, api.Float{}) {
			t.Fatal(x)
		}
	}
	r := rand.New(rand.NewSource(2))
	for range 300 {
		m, k, dir := r.Int63n(100000), r.Intn(20)-10, r.Intn(5)
		s := strconv.FormatInt(m, 10) + "e" + strconv.Itoa(k)
		want, _ := format.Round(times(integer.Of(m), k), f, dir)
		if x, _, err := Read(s, f, dir); err != api.OK || !same(x, want) {
			t.Fatal(s, dir, x, want)
		}
	}
	if _, _, err := Read(strings.Repeat("9", 20000), f, 0); err != api.OK {
		t.Fatal("20000")
	}
}

func ints(l ...int64) []api.Int {
	var p []api.Int
	for _, n := range l {
		p = append(p, integer.Of(n))
	}
	return poly.Make(p)
}

func TestClosed(t *testing.T) {
	for _, x := range []struct {
		p    []api.Int
		want []string
	}{
		{ints(-3, 7), []string{"[3/7]"}}, {ints(3, 1), []string{"[-3]"}}, {ints(0, 1), []string{"0"}}, {ints(-1, -1, 1), []string{"((1 - sqrt(5)) / 2)", "((1 + sqrt(5)) / 2)"}}, {ints(-2, 0, 1), []string{"((0 - sqrt(8)) / 2)", "((0 + sqrt(8)) / 2)"}}, {ints(1, 5, 3), []string{"(([-5] - sqrt(13)) / 6)", "(([-5] + sqrt(13)) / 6)"}},
		{ints(-2, 0, 0, 1), []string{"root(3, 2)"}}, {ints(2, 0, 0, 3), []string{"root(3, [-2/3])"}}, {ints(-2, 0, 0, 0, 1), []string{"(-root(4, 2))", "root(4, 2)"}}, {ints(1, -3, 0, 1), []string{"rootof(0; 1, -3, 0, 1)", "rootof(1; 1, -3, 0, 1)", "rootof(2; 1, -3, 0, 1)"}},
		{ints(1, 0, -10, 0, 1), []string{"(-sqrt(((10 + sqrt(96)) / 2)))", "(-sqrt(((10 - sqrt(96)) / 2)))", "sqrt(((10 - sqrt(96)) / 2))", "sqrt(((10 + sqrt(96)) / 2))"}}, {ints(-1, 0, -1, 0, 1), []string{"(-sqrt(((1 + sqrt(5)) / 2)))", "sqrt(((1 + sqrt(5)) / 2))"}}, {ints(-1, 1, 0, 0, 1), []string{"rootof(0; -1, 1, 0, 0, 1)", "rootof(1; -1, 1, 0, 0, 1)"}}, {ints(-2, 0, 0, 0, 0, 0, 1), []string{"(-root(6, 2))", "root(6, 2)"}},
	} {
		l, err := alg.Roots(x.p)
		if err != api.OK || len(l) != len(x.want) {
			t.Fatal(x.p, err, len(l))
		}
		for i, a := range l {
			s := Closed(a)
			if s != x.want[i] {
				t.Fatal(x.p, i, s)
			}
			// The value is the root: floors of both are alike.
			f, _, err := decide.Floor(read(t, s), nat.Shl([]uint32{1}, 90), 4096)
			if err != api.OK || integer.Cmp(f, alg.Floor(a, 90)) != 0 {
				t.Fatal("value", s, err)
			}
		}
	}
}
