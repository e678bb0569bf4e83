package span

import (
	"math/big"
	"strings"
	"testing"

	"ziggurat/api"
	"ziggurat/expr"
	"ziggurat/integer"
	"ziggurat/rat"
)

func read(t *testing.T, s string) []api.Node {
	t.Helper()
	e, at, err := expr.Read(s)
	if err == api.OK {
		e, err = expr.Expand(e)
	}
	if err != api.OK {
		t.Fatal(s, at, err)
	}
	return e
}

func texts(a, b api.Int) string { return integer.Text(a) + " " + integer.Text(b) }

func TestTable(t *testing.T) {
	for _, x := range []struct {
		s    string
		w    int
		want string
	}{
		{"1/3", 4, "5 6"}, {"[1/3]", 4, "5 6"}, {"[-1/3]", 4, "-6 -5"}, {"[3/4]", 2, "3 3"}, {"sqrt(2)", 8, "362 363"}, {"sqrt(2)*sqrt(2)-2", 20, "-2 2"}, {"sqrt(2)*sqrt(2)-2", 40, "0 0"},
		{"-sqrt(2)", 4, "-23 -22"}, {"sqrt(2)+[1/3]", 4, "27 29"}, {"sqrt(2)-[1/3]", 4, "16 18"}, {"[1/3]*[-1/3]", 4, "-3 -1"}, {"(sqrt(2)-1)*(1-sqrt(2))", 4, "-4 -2"},
		{"1/sqrt(2)", 4, "11 12"}, {"-1/sqrt(2)", 4, "-12 -11"}, {"1/(1-sqrt(2))", 4, "-43 -36"},
		{"sqrt(2)^0", 4, "16 16"}, {"sqrt(2)^3", 4, "41 48"}, {"(-sqrt(2))^3", 4, "-48 -41"}, {"(-sqrt(2))^2", 4, "30 34"}, {"(sqrt(2)-sqrt(2))^2", 4, "0 1"}, {"sqrt(2)^-2", 4, "7 9"}, {"(0*sqrt(2)-[1/100])^2", 3, "0 1"},
		{"sqrt(9/4)", 4, "24 24"}, {"root(3,-8)", 4, "-32 -32"}, {"root(3,2)", 4, "20 21"}, {"root(3,-2)", 4, "-21 -20"}, {"root(1,sqrt(2))", 4, "22 23"}, {"root(4,16)", 3, "16 16"},
		{"rootof(1;-2,0,1)", 4, "22 23"}, {"rootof(0;-2,0,1)", 4, "-23 -22"}, {"rootof(0;-3,4)", 2, "3 3"}, {"rootof(0;-1,3)", 2, "1 2"},
		{"exp(0)", 4, "16 16"}, {"exp(1)", 4, "43 44"}, {"exp(sqrt(2))", 4, "63 68"}, {"log(1)", 4, "0 0"}, {"log(2)", 4, "11 12"}, {"log(sqrt(2))", 4, "5 6"}, {"atan(1)", 4, "12 13"}, {"atan(-1)", 4, "-13 -12"}, {"atan(0)", 4, "0 0"},
		{"sin(1)", 4, "13 14"}, {"cos(0)", 4, "16 16"}, {"cos(1)", 4, "8 9"}, {"sin(sqrt(2))", 4, "14 16"}, {"sin(-sqrt(2))", 4, "-16 -14"}, {"tan(1)", 4, "23 28"}, {"pi", 4, "50 51"}, {"tan(0)", 4, "0 0"},
		{"log(sqrt(2)*sqrt(2)/2)", 40, "0 0"}, {"sqrt(2)-sqrt(2)", 4, "-1 1"}, {"sqrt(2)-sqrt(2)", 13, "-1 1"}, {"sqrt(2)-sqrt(2)", 15, "0 0"}, {"pi-pi", 100, "-1 1"},
		{"if 1<2 then 3 else 4", 1, "6 6"}, {"if 2<=2 then 3 else 4", 1, "6 6"}, {"if 2<2 then 3 else 4", 1, "8 8"}, {"if 2=2 then 3 else 4", 1, "6 6"}, {"if 1=2 then 3 else 4", 1, "8 8"}, {"if 3<=2 then 3 else 4", 1, "8 8"}, {"1+(if 3<sqrt(2) then 3 else 4)", 4, "80 80"},
		{"if (if 1<2 then 1 else pi)=1 then (if 2<1 then 5 else 6) else 1/0", 4, "96 96"},
	} {
		lo, hi, err := Span(read(t, x.s), x.w)
		if err != api.OK || texts(lo, hi) != x.want || !integer.Right(lo) || !integer.Right(hi) {
			t.Fatal(x, texts(lo, hi), err)
		}
	}
}

func TestErrors(t *testing.T) {
	for s, want := range map[string]api.Errno{
		"1/0": api.ErrDomain, "0^-1": api.ErrDomain, "1/(sin(1)-sin(1))": api.ErrVague, "1/(sqrt(2)-sqrt(2))": api.ErrDomain, "(pi-pi)^-2": api.ErrVague, "sqrt(-2)": api.ErrDomain, "sqrt(pi-pi)": api.ErrVague, "root(4,-pi)": api.ErrDomain, "rootof(0;1,0,1)": api.ErrDomain, "rootof(2;-2,0,1)": api.ErrDomain,
		"log(0)": api.ErrDomain, "log(-1)": api.ErrDomain, "log(pi-pi)": api.ErrVague, "exp(5000)": api.ErrBig, "exp(-5000)": api.ErrBig, "sin(2*2^64)": api.ErrBig, "cos(2*2^64)": api.ErrBig, "tan(-3*2^64)": api.ErrBig,
		"1/0+log(pi-pi)": api.ErrDomain, "log(pi-pi)+1/0": api.ErrVague, "(1/0)/0": api.ErrDomain, "exp(5000)/0": api.ErrBig, "if pi<pi then 1 else 2": api.ErrVague, "if 1/0<1 then log(pi-pi) else 2": api.ErrDomain, "if 1<2 then log(pi-pi) else 1/0": api.ErrVague, "1/0+(if pi<pi then 1 else 2)": api.ErrVague,
	} {
		e := read(t, s)
		lo, hi, err := Span(e, 20)
		if err != want || err != api.OK && texts(lo, hi) != "0 0" {
			t.Fatal(s, texts(lo, hi), err)
		}
		l, err := Spans(e, 20)
		if has := strings.Contains(s, "if"); has && err != api.ErrArg || !has && err != want || err != api.OK && l != nil {
			t.Fatal("Spans", s, err)
		}
	}
	if l, err := Settle(read(t, "if pi<pi then 1 else 2"), 40); err != api.ErrVague || l != nil {
		t.Fatal("Settle", err)
	}
}

var many = []string{"sqrt(2)+sqrt(3)*[-22/7]", "1/(sqrt(5)-2)", "root(3,sqrt(7)-5)^5", "exp(log(3)/2)-1", "atan(sqrt(2))*4", "sin(10)*cos(3)", "tan(pi/5)", "rootof(2;1,-3,0,1)^-3", "(sqrt(2)-[3/2])^4*(1-pi)", "if sqrt(2)<[3/2] then sqrt(5) else 1/0", "(sqrt(2)-2)^3/(pi^2-9)", "log(1+exp(-2))", "root(5,-100)-root(4,3)"}

func TestHolds(t *testing.T) {
	for _, s := range many {
		e := read(t, s)
		fine := 300
		lo, hi, err := Span(e, fine)
		if err != api.OK || integer.Cmp(integer.Sub(hi, lo), integer.Shift(integer.Of(1), 30)) > 0 {
			t.Fatal(s, err)
		}
		for _, w := range []int{40, 64, 100, 299} {
			x, y, err := Span(e, w)
			if err != api.OK || integer.Cmp(integer.Shift(x, fine-w), lo) > 0 || integer.Cmp(integer.Shift(y, fine-w), hi) < 0 {
				t.Fatal(s, w, err)
			}
		}
	}
	// Square roots against those of the library of Go.
	want := new(big.Float).SetPrec(400).Add(new(big.Float).SetPrec(400).Sqrt(big.NewFloat(2)), new(big.Float).SetPrec(400).Sqrt(big.NewFloat(3)))
	want.SetMantExp(want, 200)
	lo, hi, _ := Span(read(t, "sqrt(2)+sqrt(3)"), 200)
	x, _ := new(big.Float).SetPrec(400).SetString(integer.Text(lo))
	y, _ := new(big.Float).SetPrec(400).SetString(integer.Text(hi))
	if x.Cmp(want) > 0 || y.Cmp(want) < 0 {
		t.Fatal("sums of roots")
	}
	for _, n := range [][2]int64{{7, 8}, {-22, 7}, {0, 1}, {5, 1}} {
		q, _ := rat.Make(integer.Of(n[0]), integer.Of(n[1]))
		lo, hi, _ := Span([]api.Node{{Op: api.Num, Q: q}}, 3)
		whole := rat.Mul(q, rat.Whole(integer.Of(8)))
		if exact := len(whole.Den) == 1 && whole.Den[0] == 1; exact != (integer.Cmp(lo, hi) == 0) || integer.Cmp(lo, rat.Floor(whole)) != 0 || integer.Cmp(hi, rat.Ceil(whole)) != 0 {
			t.Fatal("Num", n)
		}
	}
}

func TestParts(t *testing.T) {
	for _, s := range many {
		e, err := Settle(read(t, s), 64)
		if err != api.OK {
			t.Fatal(s)
		}
		l, err := Spans(e, 64)
		if err != api.OK || len(l) != len(e) {
			t.Fatal(s, err)
		}
		for i := range e {
			n := 0
			for open := 1; open > 0; n++ {
				open += len(expr.Parts(append(e[i+n:i+n+1:i+n+1], filler(e[i+n])...))) - 1
			}
			lo, hi, err := Span(e[i:i+n], 64)
			if err != api.OK || texts(lo, hi) != texts(l[i][0], l[i][1]) {
				t.Fatal(s, i, n)
			}
		}
	}
}

// filler are as many nodes as a node has parts.
func filler(x api.Node) []api.Node {
	n := map[int]int{api.Neg: 1, api.Pow: 1, api.Root: 1, api.Func: 1, api.Add: 2, api.Sub: 2, api.Mul: 2, api.Div: 2}[x.Op]
	var l []api.Node
	for range n {
		l = append(l, api.Node{Op: api.Pi})
	}
	return l
}

func TestNarrow(t *testing.T) {
	for _, s := range many {
		if strings.Contains(s, "sin") || strings.Contains(s, "tan(") && !strings.Contains(s, "atan") {
			continue
		}
		e := read(t, s)
		x, y, _ := Span(e, 30)
		for _, w := range []int{31, 45, 90} {
			lo, hi, err := Span(e, w)
			if err != api.OK || integer.Cmp(integer.Shift(x, w-30), lo) > 0 || integer.Cmp(integer.Shift(y, w-30), hi) < 0 {
				t.Fatal(s, w)
			}
		}
	}
	for _, s := range []string{"sqrt(2)*sqrt(3)-sqrt(6)", "sqrt(5+2*sqrt(6))-sqrt(2)-sqrt(3)", "rootof(1;-2,0,1)-sqrt(2)", "root(3,2)^3-2", "1/(1+sqrt(2))-sqrt(2)+1", "rootof(3;1,0,-10,0,1)-sqrt(2)-sqrt(3)"} {
		told := false
		for w := 32; w <= 2048 && !told; w *= 2 {
			lo, hi, err := Span(read(t, s), w)
			told = err == api.OK && texts(lo, hi) == "0 0"
			if !told && (integer.Sign(lo) > 0 || integer.Sign(hi) < 0) {
				t.Fatal("not 0", s, w)
			}
		}
		if !told {
			t.Fatal("0 is not told", s)
		}
	}
}

func TestSettled(t *testing.T) {
	e := read(t, "(if sqrt(2)<1 then 5 else (if pi<=4 then sqrt(7) else 2)) + (if sqrt(2)*sqrt(2)=2 then 1 else 0)")
	s, err := Settle(e, 64)
	if err != api.OK || expr.Text(s) != "(sqrt(7) + 1)" || !expr.Right(s) {
		t.Fatal(expr.Text(s), err)
	}
	again, err := Settle(s, 64)
	if err != api.OK || expr.Text(again) != expr.Text(s) {
		t.Fatal("by itself")
	}
	lo, hi, _ := Span(e, 64)
	x, y, _ := Span(s, 64)
	if texts(lo, hi) != texts(x, y) {
		t.Fatal("its span")
	}
	if _, err := Spans(e, 64); err != api.ErrArg {
		t.Fatal(err)
	}
}

func TestWide(t *testing.T) {
	lo, hi, err := Span(read(t, "sqrt(2)*pi-exp(1)^3+sin(3)"), 65536)
	if err != api.OK || integer.Cmp(integer.Sub(hi, lo), integer.Of(500)) > 0 {
		t.Fatal(err)
	}
	long := read(t, "1"+strings.Repeat("+sqrt(2)-pi", 330))
	lo, hi, err = Span(long, 4096)
	if err != api.OK || integer.Cmp(integer.Sub(hi, lo), integer.Of(1000)) > 0 {
		t.Fatal(err)
	}
	// As many nodes as there may be, of which each must be held against 0.
	if _, _, err := Span(read(t, "sqrt(2)"+strings.Repeat("-sqrt(2)+sqrt(2)", 280)), 64); err != api.OK {
		t.Fatal(err)
	}
}
