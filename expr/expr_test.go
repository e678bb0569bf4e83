package expr

import (
	"math/rand"
	"reflect"
	"slices"
	"strings"
	"testing"

	"ziggurat/api"
	"ziggurat/integer"
	"ziggurat/rat"
)

func must(t *testing.T, s string) []api.Node {
	t.Helper()
	e, at, err := Read(s)
	if err != api.OK || at != 0 || !Right(e) {
		t.Fatal(s, at, err)
	}
	return e
}

func equal(a, b []api.Node) bool { return Text(a) == Text(b) && len(a) == len(b) }

func TestTexts(t *testing.T) {
	for s, want := range map[string]string{
		"1+2*x^2":                           "(1 + (2 * (x^2)))",
		"-2^2/0.5":                          "((-(2^2)) / [1/2])",
		"1-2-3":                             "((1 - 2) - 3)",
		"1/2/3*4":                           "(((1 / 2) / 3) * 4)",
		"2*-3":                              "(2 * (-3))",
		"--1":                               "(-(-1))",
		"x^-3":                              "(x^-3)",
		"x ^ - 3":                           "(x^-3)",
		"(1+2)*3":                           "((1 + 2) * 3)",
		"[-6/4]":                            "[-3/2]",
		"[ 6 / 3 ]":                         "2",
		"[-2]":                              "[-2]",
		"0.250":                             "[1/4]",
		"007":                               "7",
		"3.0":                               "3",
		"sqrt(2)+root(3,x)-root(2, 5)":      "((sqrt(2) + root(3, x)) - sqrt(5))",
		"rootof(1;-2,0,1)":                  "rootof(1; -2, 0, 1)",
		"exp(log(sin(cos(tan(atan(pi))))))": "exp(log(sin(cos(tan(atan(pi))))))",
		"let x = 2 in x+1":                  "(let x = 2 in (x + 1))",
		"1*(let a1_B=2 in let b=3 in a1_B)": "(1 * (let a1_B = 2 in (let b = 3 in a1_B)))",
		"if 1<2 then 3 else 4":              "(if 1 < 2 then 3 else 4)",
		"if 1<=2 then 3 else if 1=x then 3 else 5": "(if 1 <= 2 then 3 else (if 1 = x then 3 else 5))",
		"if x <= pi then sqrt(2) else [-3/4]":      "(if x <= pi then sqrt(2) else [-3/4])",
		"sum(i,-1,3;i*i)":                          "sum(i, -1, 3; (i * i))",
		"prod(i, 5, 3; 1)":                         "prod(i, 5, 3; 1)",
		"\t\n\r 1 \r":                              "1",
		"inn+lets+pii":                             "((inn + lets) + pii)",
	} {
		e := must(t, s)
		if Text(e) != want {
			t.Fatal(s, Text(e))
		}
		if again := must(t, Text(e)); !reflect.DeepEqual(again, must(t, "  "+want)) || !equal(again, e) {
			t.Fatal("back", s)
		}
	}
}

func TestErrors(t *testing.T) {
	for _, x := range []struct {
		s   string
		at  int
		err api.Errno
	}{
		{"", 0, api.ErrEnd}, {"  ", 2, api.ErrEnd}, {"2 +", 3, api.ErrEnd}, {"2 + ", 4, api.ErrEnd}, {"(1", 2, api.ErrEnd}, {"sqrt", 4, api.ErrEnd}, {"let", 3, api.ErrEnd}, {"let x = 1", 9, api.ErrEnd}, {"x^", 2, api.ErrEnd}, {"[1/", 3, api.ErrEnd}, {"rootof(1", 8, api.ErrEnd},
		{"1 2", 2, api.ErrToken}, {"1.", 1, api.ErrToken}, {".5", 0, api.ErrToken}, {"1 + $", 4, api.ErrToken}, {"x^2^3", 3, api.ErrToken}, {"x^2.0", 2, api.ErrToken}, {"x^-y", 3, api.ErrToken}, {"[1/0]", 3, api.ErrToken}, {"[1/ 00]", 4, api.ErrToken}, {"[1.5]", 1, api.ErrToken}, {"[1/-2]", 3, api.ErrToken}, {"[x]", 1, api.ErrToken},
		{")", 0, api.ErrToken}, {"()", 1, api.ErrToken}, {"let pi = 1 in 2", 4, api.ErrToken}, {"let x = 1 on 2", 10, api.ErrToken}, {"1 + let x = 1 in x", 4, api.ErrToken}, {"sin 1", 4, api.ErrToken}, {"in", 0, api.ErrToken}, {"then", 0, api.ErrToken}, {"1 < 2", 2, api.ErrToken}, {"if 1 > 2 then 3 else 4", 5, api.ErrToken}, {"root(x, 2)", 5, api.ErrToken}, {"sum(1, 2, 3; 4)", 4, api.ErrToken}, {"sum(i, x, 3; 4)", 7, api.ErrToken}, {"sum(i, 1, 3, 4)", 11, api.ErrToken},
		{"1 + \xff", 4, api.ErrToken}, {"1+*2", 2, api.ErrToken}, {"é", 0, api.ErrToken}, {"_x", 0, api.ErrToken}, {"rootof(1, 2)", 8, api.ErrToken}, {"x y $", 2, api.ErrToken}, {"+1", 0, api.ErrToken}, {"$ )", 0, api.ErrToken}, {"pi(", 2, api.ErrToken}, {"-", 1, api.ErrEnd}, {"1.5.5", 3, api.ErrToken},
		{"root(0, 2)", 0, api.ErrBig}, {"root(65, 2)", 0, api.ErrBig}, {"root(-1, 2)", 0, api.ErrBig}, {"x^65", 0, api.ErrBig}, {"x^-65", 0, api.ErrBig}, {"x^99999999999999999999999999", 0, api.ErrBig}, {"x^18446744073709551617", 0, api.ErrBig}, {"rootof(40; 1, 1)", 0, api.ErrBig}, {"rootof(0; 1)", 0, api.ErrBig}, {"rootof(0; 1, 1, 0)", 0, api.ErrBig}, {"rootof(-1; 1, 1)", 0, api.ErrBig},
		{"abcdefghijklmnopqrstu", 0, api.ErrBig}, {"let abcdefghijklmnopqrstu = 1 in 2", 0, api.ErrBig}, {strings.Repeat(" ", 20001), 0, api.ErrBig}, {strings.Repeat("-", 2000) + "1", 0, api.ErrBig}, {strings.Repeat("-", 19999) + "1", 0, api.ErrBig}, {strings.Repeat("1+", 9999) + "1", 0, api.ErrBig}, {strings.Repeat("1+", 9999) + "+", 19998, api.ErrToken}, {strings.Repeat("(", 20000), 20000, api.ErrEnd},
	} {
		if e, at, err := Read(x.s); e != nil || at != x.at || err != x.err {
			t.Fatal(x.s[:min(len(x.s), 50)], at, err)
		}
	}
	if e := must(t, strings.Repeat("-", 1999)+"1"); len(e) != 2000 {
		t.Fatal(len(e))
	}
	if e := must(t, strings.Repeat("(", 9000)+"1"+strings.Repeat(")", 9000)); len(e) != 1 {
		t.Fatal(len(e))
	}
	must(t, "abcdefghijklmnopqrst")
	must(t, strings.Repeat("9", 20000))
}

func TestRight(t *testing.T) {
	one := rat.Whole(integer.Of(1))
	n, v := api.Node{Op: api.Num, Q: one}, api.Node{Op: api.Var, Name: "x"}
	line := []api.Int{integer.Of(1), integer.Of(1)}
	for i, e := range [][]api.Node{
		nil, {{}}, {{Op: 17}}, {{Op: -1}}, {{Op: api.Num}}, {n, n}, {{Op: api.Add}, n}, {{Op: api.Add}, n, n, n}, {{Op: api.Var}}, {{Op: api.Var, Name: "pi"}}, {{Op: api.Var, Name: "1x"}}, {{Op: api.Var, Name: "a b"}}, {{Op: api.Var, Name: "x", N: 1}}, {{Op: api.Var, Name: "x", Q: one}}, {{Op: api.Num, Q: one, Name: "x"}}, {{Op: api.Num, Q: one, P: line}},
		{{Op: api.Neg, N: 1}, n}, {{Op: api.Pow, N: 65}, n}, {{Op: api.Pow, N: -65}, n}, {{Op: api.Root}, n}, {{Op: api.Root, N: 65}, n}, {{Op: api.Func, N: 7}, n}, {{Op: api.Func}, n}, {{Op: api.If, N: 3}, n, n, n, n}, {{Op: api.If, N: -1}, n, n, n, n}, {{Op: api.RootOf, N: 40, P: line}}, {{Op: api.RootOf, P: line[:1]}}, {{Op: api.RootOf, P: []api.Int{line[0], {}}}}, {{Op: api.RootOf, P: slices.Repeat(line, 21)}},
		{{Op: api.Sum, Name: "i", P: line[:1]}, n}, {{Op: api.Sum, P: line}, n}, {{Op: api.Prod, Name: "i", P: []api.Int{line[0], {Neg: true}}}, n}, {{Op: api.Let, Name: "in"}, n, n}, {{Op: api.Pi, N: 1}}, {{Op: api.Num, Q: api.Rat{Num: integer.Of(2), Den: []uint32{2}}}}, {{Op: api.Pi, Q: api.Rat{Den: []uint32{1}}}},
	} {
		if Right(e) {
			t.Fatal(i, e)
		}
	}
	for i, e := range [][]api.Node{{n}, {v}, {{Op: api.Add}, n, v}, {{Op: api.Pow, N: -64}, n}, {{Op: api.Root, N: 64}, n}, {{Op: api.RootOf, N: 39, P: line}}, {{Op: api.Sum, Name: "i", P: []api.Int{{}, integer.Of(-5)}}, v}, {{Op: api.If, N: 2}, n, v, n, n}, {{Op: api.Num, Q: api.Rat{Den: []uint32{1}}}}, {{Op: api.Let, Name: "x"}, n, v}} {
		if !Right(e) {
			t.Fatal(i, e)
		}
	}
	long := append(slices.Repeat([]api.Node{{Op: api.Neg}}, 2000), n)
	if Right(long) || !Right(long[1:]) {
		t.Fatal("2000")
	}
}

func TestParts(t *testing.T) {
	for s, want := range map[string]string{"1": "", "x+2*3": "x|(2 * 3)|", "if 1<(2-x) then 3 else -4": "1|(2 - x)|3|(-4)|", "let x=1+1 in x": "(1 + 1)|x|", "sum(i,1,2;i)": "i|", "rootof(0;1,1)": ""} {
		got := ""
		for _, p := range Parts(must(t, s)) {
			got += Text(p) + "|"
		}
		if got != want {
			t.Fatal(s, got)
		}
	}
}

func TestNames(t *testing.T) {
	for s, want := range map[string]string{"b+a*b": "b a", "let x = x in x+y": "x y", "sum(i,1,2;i*j)+i": "j i", "1": "", "let x=1 in let y=x in x+y": "", "prod(x,1,2;let y=x in z)": "z", "(let x=1 in x)+x": "x"} {
		if got := strings.Join(Names(must(t, s)), " "); got != want {
			t.Fatal(s, got)
		}
	}
}

func TestPut(t *testing.T) {
	for _, x := range []struct{ e, v, want string }{
		{"x+x*y", "2+z", "((2 + z) + ((2 + z) * y))"}, {"let x=x in x", "5", "(let x = 5 in x)"}, {"sum(x,1,2;x)", "y", "sum(x, 1, 2; x)"}, {"sum(i,1,2;x)", "y", "sum(i, 1, 2; y)"}, {"let i=x in i", "i", "(let i = i in i)"}, {"y", "z", "y"}, {"let y=1 in y", "y", "(let y = 1 in y)"}, {"sum(i,1,2;y)", "i", "sum(i, 1, 2; y)"},
	} {
		got, err := Put(must(t, x.e), "x", must(t, x.v))
		if err != api.OK || Text(got) != x.want || !Right(got) {
			t.Fatal(x, Text(got), err)
		}
	}
	for _, x := range [][2]string{{"sum(i,1,2;x)", "i+1"}, {"let i=1 in x", "i"}, {"let i=1 in let j=x in j", "2*i"}, {"prod(i,1,2;let j=1 in x)", "j"}} {
		if got, err := Put(must(t, x[0]), "x", must(t, x[1])); err != api.ErrName || got != nil {
			t.Fatal(x, err)
		}
	}
	long := must(t, strings.Repeat("x+", 900)+"x")
	if got, err := Put(long, "x", must(t, "1+2")); err != api.ErrBig || got != nil {
		t.Fatal("long", err)
	}
	if got, err := Put(long, "x", must(t, "1")); err != api.OK || len(got) != len(long) {
		t.Fatal("as long", err)
	}
	if got, err := Put(must(t, "sum(i,1,2;x)"+strings.Repeat("+x", 900)), "x", must(t, "i+i")); err != api.ErrName || got != nil {
		t.Fatal("name first", err)
	}
	if _, err := Put(long, "x", must(t, "y")); err != api.OK {
		t.Fatal(err)
	}
}

func TestExpand(t *testing.T) {
	for s, want := range map[string]string{
		"let x = 2 in sum(i, 1, 3; i * x)":                      "(((1 * 2) + (2 * 2)) + (3 * 2))",
		"sum(i,3,2;i)":                                          "0",
		"prod(i,3,2;i)":                                         "1",
		"prod(i,-1,1;i)":                                        "(([-1] * 0) * 1)",
		"let x=1 in let x=x+1 in x*x":                           "((1 + 1) * (1 + 1))",
		"let x = 5 in sum(x,1,2;x)":                             "(1 + 2)",
		"sum(i,1,2;sum(j,1,2;i*j))":                             "(((1 * 1) + (1 * 2)) + ((2 * 1) + (2 * 2)))",
		"if 1<(let x=2 in x) then sqrt(3) else pi":              "(if 1 < 2 then sqrt(3) else pi)",
		"let y=1 in let x=y in let y=2 in x+y":                  "(1 + 2)",
		"let x = sum(i,1,5000;i) in 7":                          "7",
		"let x = sum(i,1,999999999999999999999999;i) in 7":      "7",
		"sum(i, 99999999999999999999, 99999999999999999999; i)": "99999999999999999999",
	} {
		e := must(t, s)
		got, err := Expand(e)
		if err != api.OK || Text(got) != want || !Right(got) {
			t.Fatal(s, Text(got), err)
		}
		again, _ := Expand(got)
		if !equal(again, got) {
			t.Fatal("its own", s)
		}
		for _, x := range got {
			if x.Op == api.Var || x.Op == api.Let || x.Op == api.Sum || x.Op == api.Prod {
				t.Fatal(s, Text(got))
			}
		}
	}
	for _, s := range []string{"x", "let y=x in 1", "sum(i,1,2;i+j)", "sum(i,1,99999;x)"} {
		if got, err := Expand(must(t, s)); err != api.ErrName || got != nil {
			t.Fatal(s, err)
		}
	}
	for _, s := range []string{"sum(i,1,1001;i)", "sum(i,1,999999999999999999999999;i)", "let x=sum(i,1,600;i) in x+x", "prod(i,0,40;sum(j,0,40;1))", "let x=sum(i,1,5000;i) in if 1<2 then 1 else x"} {
		if got, err := Expand(must(t, s)); err != api.ErrBig || got != nil {
			t.Fatal(s, err)
		}
	}
	if got, err := Expand(must(t, "sum(i,1,1000;i)")); err != api.OK || len(got) != 1999 {
		t.Fatal(len(got), err)
	}
	deep := "1"
	for i := range 30 {
		deep = "let a" + string(rune('a'+i%26)) + " = sum(i,1,1000;" + deep + ") in 1"
	}
	if got, err := Expand(must(t, deep)); err != api.OK || Text(got) != "1" {
		t.Fatal("unused sums", err)
	}
}

// some is an expression of names, numbers and all operations.
func some(r *rand.Rand, deep int) []api.Node {
	line := []api.Int{integer.Of(r.Int63n(9) - 4), integer.Of(r.Int63n(5) + 1)}
	q, _ := rat.Make(integer.Of(r.Int63n(99)-50), integer.Of(r.Int63n(4)+1))
	if deep == 0 {
		return [][]api.Node{{{Op: api.Num, Q: q}}, {{Op: api.Var, Name: "x"}}, {{Op: api.Pi}}, {{Op: api.RootOf, N: r.Intn(40), P: line}}}[r.Intn(4)]
	}
	x := api.Node{Op: api.Neg + r.Intn(14)}
	switch x.Op {
	case api.Pow:
		x.N = r.Intn(129) - 64
	case api.Root:
		x.N = r.Intn(64) + 1
	case api.RootOf, api.Pi:
		return some(r, 0)
	case api.Func:
		x.N = r.Intn(6) + 1
	case api.If:
		x.N = r.Intn(3)
	case api.Let:
		x.Name = "y"
	case api.Sum, api.Prod:
		x.Name, x.P = "x", line
	}
	e := []api.Node{x}
	for range count(x.Op) {
		e = append(e, some(r, deep-1)...)
	}
	return e
}

func TestWrittenIsRead(t *testing.T) {
	r := rand.New(rand.NewSource(1))
	for range 300 {
		e := some(r, r.Intn(5))
		if !Right(e) {
			t.Fatal(e)
		}
		s := Text(e)
		if len(s) > 20000 {
			continue
		}
		back := must(t, s)
		if !equal(e, back) {
			t.Fatal(s, Text(back))
		}
		if _, at, err := Read("   " + s + " $"); err != api.ErrToken || at != len(s)+4 {
			t.Fatal("blanks", s, at, err)
		}
		if same, _ := Put(e, "none", back); !equal(same, e) {
			t.Fatal("a name that is not free", s)
		}
	}
}
