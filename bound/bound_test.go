package bound

import (
	"math"
	"strings"
	"testing"

	"ziggurat/api"
	"ziggurat/expr"
	"ziggurat/integer"
	"ziggurat/nat"
	"ziggurat/rat"
)

func read(t *testing.T, s string) []api.Node {
	t.Helper()
	e, at, err := expr.Read(s)
	if err != api.OK {
		t.Fatal(s, at, err)
	}
	return e
}

func TestLevels(t *testing.T) {
	for s, want := range map[string]int{"1+2": 1, "sqrt(2)": 2, "rootof(0;1,1)+1": 2, "pi": 3, "sqrt(exp(1))": 3, "if pi<3 then 1 else 2": 3, "if sqrt(2)<1 then 1 else 2": 2, "2^3": 1, "if 1<2 then 3 else pi*sqrt(2)": 3} {
		e := read(t, s)
		if Level(e) != want {
			t.Fatal(s, Level(e))
		}
		for _, p := range expr.Parts(e) {
			if Level(p) > Level(e) {
				t.Fatal("a part", s)
			}
		}
	}
}

func TestSep(t *testing.T) {
	for s, want := range map[string][3]int{
		"7/5":                            {1, 4, 4},
		"[7/5]":                          {1, 3, 3},
		"0":                              {1, 0, 1},
		"[-3/8]":                         {1, 2, 4},
		"-sqrt(2)":                       {2, 2, 1},
		"sqrt(2)-[7/5]":                  {2, 6, 4},
		"sqrt(2)+[7/5]":                  {2, 6, 4},
		"sqrt(2)*sqrt(3)":                {4, 4, 2},
		"sqrt(2)/root(3,5)":              {6, 3, 3},
		"[7/5]^4":                        {1, 12, 12},
		"[7/4]^-2":                       {1, 6, 6},
		"[1/9]^-2":                       {1, 8, 2},
		"[1/9]^0":                        {1, 0, 0},
		"root(3,[100/9])":                {3, 5, 4},
		"rootof(0;-2,0,1)":               {2, 2, 1},
		"rootof(1;-5,0,7,-3)":            {3, 4, 2},
		"pi":                             {1, 0, 0},
		"exp(sqrt(2))":                   {1, 0, 0},
		"pi+sqrt(2)":                     {2, 3, 1},
		"if 1<2 then sqrt(2) else [1/9]": {2, 2, 4},
	} {
		d, u, l := Sep(read(t, s))
		if [3]int{d, u, l} != want {
			t.Fatal(s, d, u, l)
		}
	}
	for s, want := range map[string]int{"sqrt(2)-[7/5]": 10, "rootof(0;-2,0,1)": 3, "0": 1, "1": 1, "[1/9]^0": 0} {
		if b, is := Zero(read(t, s)); b != want || !is {
			t.Fatal(s, b, is)
		}
	}
}

func TestCut(t *testing.T) {
	if b, is := Zero(read(t, "pi-pi")); b != 0 || is {
		t.Fatal("Real")
	}
	deep := "sqrt(2)"
	for range 5 {
		deep = "root(64," + deep + ")"
	}
	if d, u, l := Sep(read(t, deep)); d != 1<<30 || u != 2 || l != 1 {
		t.Fatal(d, u, l)
	}
	if b, is := Zero(read(t, deep)); b != 0 || is {
		t.Fatal("D")
	}
	power := "3"
	for range 6 {
		power = "(" + power + ")^64"
	}
	if d, u, l := Sep(read(t, power)); d != 1 || u != 1<<30 || l != 1<<30 {
		t.Fatal(d, u, l)
	}
	if _, is := Zero(read(t, power)); is {
		t.Fatal("U")
	}
	// (D - 1) U + L just below, and at, 2^30: a degree of 2^20 and some 1024 bits.
	e := read(t, "root(64,root(64,root(64,root(4,x))))")
	for _, bits := range []int{900, 1020, 1021, 1022, 1023, 1024, 1025} {
		n := rat.Whole(integer.Shift(integer.Of(1), bits-1))
		top, _ := expr.Put(e, "x", []api.Node{{Op: api.Num, Q: n}})
		f, _ := expr.Put(read(t, "x+root(64,root(64,root(64,root(4,2))))-root(1,2)"), "x", []api.Node{{Op: api.Num, Q: n}})
		d, u, l := Sep(f)
		b := (d-1)*u + l
		z, is := Zero(f)
		if is != (b < 1<<30) || is && z != b || !is && z != 0 {
			t.Fatal(bits, b, z, is)
		}
		if _, is := Zero(top); !is {
			t.Fatal("small", bits)
		}
	}
}

func TestApart(t *testing.T) {
	// Rational values: at most 2^U, and at least 2^-L.
	for _, x := range [][2]int64{{7, 5}, {-1, 9}, {1000, 999}, {3, 1}} {
		for _, y := range [][2]int64{{1, 1}, {22, 7}, {-5, 8}} {
			a, _ := rat.Make(integer.Of(x[0]), integer.Of(x[1]))
			b, _ := rat.Make(integer.Of(y[0]), integer.Of(y[1]))
			quotient, _ := rat.Div(a, b)
			power, _ := rat.Pow(a, -3)
			for op, v := range map[string]api.Rat{"a+b": rat.Add(a, b), "a-b": rat.Sub(a, b), "a*b": rat.Mul(a, b), "a/b": quotient, "a^-3": power} {
				e, _ := expr.Put(read(t, op), "a", []api.Node{{Op: api.Num, Q: a}})
				e, _ = expr.Put(e, "b", []api.Node{{Op: api.Num, Q: b}})
				_, u, l := Sep(e)
				z, is := Zero(e)
				if rat.Sign(v) != 0 && (nat.Cmp(v.Num.Mag, nat.Shl(v.Den, u)) > 0 || nat.Cmp(nat.Shl(v.Num.Mag, l), v.Den) < 0) || !is || z != l {
					t.Fatal(op, x, y, u, l)
				}
			}
		}
	}
	// Differences of roots that are small, but not 0.
	for s, v := range map[string]float64{"sqrt(2)-[99/70]": math.Sqrt2 - 99.0/70, "sqrt(2)+sqrt(3)-sqrt(10)": math.Sqrt2 + math.Sqrt(3) - math.Sqrt(10), "sqrt(5+2*sqrt(6))-sqrt(2)-[1732/1000]": math.Sqrt(3) - 1.732, "rootof(1;-2,0,1)-root(3,[2828/1000])": math.Sqrt2 - math.Cbrt(2.828)} {
		b, is := Zero(read(t, s))
		if !is || math.Abs(v) < math.Pow(2, -float64(b)) {
			t.Fatal(s, b)
		}
	}
	if b, is := Zero(read(t, "1"+strings.Repeat("+1", 900))); !is || b != 901 {
		t.Fatal(b)
	}
}
