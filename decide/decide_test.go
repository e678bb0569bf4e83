package decide

import (
	"math/rand"
	"testing"

	"ziggurat/api"
	"ziggurat/expr"
	"ziggurat/integer"
	"ziggurat/nat"
	"ziggurat/rat"
)

func read(t *testing.T, s string) []api.Node {
	t.Helper()
	e, at, err := expr.Read(s)
	if err == api.OK {
		e, err = expr.Expand(e)
	}
	if err != api.OK {
		t.Fatal(s, at, err)
	}
	return e
}

func TestSigns(t *testing.T) {
	for _, x := range []struct {
		s       string
		most    int
		sign, w int
		err     api.Errno
	}{
		{"sqrt(2)-[3/2]", 100, -1, 32, api.OK}, {"sqrt(2)*sqrt(3)-sqrt(6)", 64, 0, 64, api.OK}, {"sqrt(2)*sqrt(3)-sqrt(6)", 32, 0, 0, api.ErrBudget}, {"sqrt(2)*sqrt(3)-sqrt(6)", 63, 0, 0, api.ErrBudget}, {"sqrt(2)*sqrt(3)-sqrt(6)", 1 << 40, 0, 64, api.OK},
		{"sqrt(2)+sqrt(3)-pi", 32, 1, 32, api.OK}, {"exp(log(2))-2", 4096, 0, 0, api.ErrBudget}, {"sqrt(5+2*sqrt(6))-sqrt(2)-sqrt(3)", 65536, 0, 256, api.OK}, {"1", 31, 0, 0, api.ErrBudget}, {"1", -5, 0, 0, api.ErrBudget}, {"0", 32, 0, 32, api.OK},
		{"1/0", 32, 0, 0, api.ErrDomain}, {"1/0", 31, 0, 0, api.ErrBudget}, {"sqrt(-1)", 99, 0, 0, api.ErrDomain}, {"exp(5000)", 99, 0, 0, api.ErrBig}, {"log(pi-pi)", 256, 0, 0, api.ErrBudget}, {"1/(sqrt(2)-[14142135623730950488/10000000000000000000])", 128, 1, 128, api.OK},
		{"if pi<pi then 1 else 2", 64, 0, 0, api.ErrBudget}, {"if pi<4 then 0 else 2", 64, 0, 32, api.OK}, {"log(sqrt(2)^2/2)", 64, 0, 32, api.OK}, {"sin(0)", 32, 0, 32, api.OK},
	} {
		sign, w, err := Sign(read(t, x.s), x.most)
		if sign != x.sign || w != x.w || err != x.err {
			t.Fatal(x, sign, w, err)
		}
	}
}

func TestRationalsAndRoots(t *testing.T) {
	r := rand.New(rand.NewSource(1))
	num := func(q api.Rat) []api.Node { return []api.Node{{Op: api.Num, Q: q}} }
	for range 200 {
		a, _ := rat.Make(integer.Of(r.Int63n(60)), integer.Of(r.Int63n(9)+1))
		b, _ := rat.Make(integer.Of(r.Int63n(60)), integer.Of(r.Int63n(9)+1))
		c, w, err := Cmp(num(a), num(b), 64)
		if c != rat.Cmp(a, b) || err != api.OK || w != 32 {
			t.Fatal(rat.Text(a), rat.Text(b), c, w, err)
		}
		// Of roots what squaring tells, and of their products.
		x := read(t, "sqrt(2)")
		root := func(q api.Rat) []api.Node { return append([]api.Node{{Op: api.Root, N: 2}}, num(q)...) }
		if c, _, err := Cmp(root(a), num(b), 256); err != api.OK || c != rat.Cmp(a, rat.Mul(b, b)) {
			t.Fatal("root", rat.Text(a), rat.Text(b), c, err)
		}
		product := append(append([]api.Node{{Op: api.Mul}}, root(a)...), root(b)...)
		if c, _, err := Cmp(product, x, 512); err != api.OK || c != rat.Cmp(rat.Mul(a, b), rat.Whole(integer.Of(2))) {
			t.Fatal("product", rat.Text(a), rat.Text(b), c, err)
		}
	}
}

var many = []string{"sqrt(2)", "sqrt(8)/2", "[141421356/100000000]", "pi-sqrt(3)", "root(3,3)", "exp(1)-[13/10]", "rootof(1;-2,0,1)", "-1", "0", "sqrt(2)*sqrt(3)-sqrt(6)", "7*sin(1)", "root(4,4)"}

func TestTurned(t *testing.T) {
	for _, a := range many {
		sign, w, err := Sign(read(t, a), 256)
		turned, w2, err2 := Sign(read(t, "-("+a+")"), 256)
		if sign != -turned || w != w2 || err != err2 || err != api.OK {
			t.Fatal(a, sign, turned, w, w2)
		}
		for _, b := range many {
			c, w, err := Cmp(read(t, a), read(t, b), 512)
			d, w2, err2 := Cmp(read(t, b), read(t, a), 512)
			if c != -d || w != w2 || err != err2 {
				t.Fatal(a, b, c, d, w, w2)
			}
			for _, z := range many {
				e, _, err := Cmp(read(t, b), read(t, z), 512)
				f, _, err2 := Cmp(read(t, a), read(t, z), 512)
				if c <= 0 && e <= 0 && err == api.OK && err2 == api.OK && f > 0 || c < 0 && e <= 0 && err2 == api.OK && f >= 0 && err == api.OK {
					t.Fatal("from one to the next", a, b, z)
				}
			}
		}
	}
}

func TestSlices(t *testing.T) {
	for _, s := range append(many, "sqrt(5+2*sqrt(6))-sqrt(2)-sqrt(3)", "exp(log(2))-2", "sqrt(2)-[14142135623730950488/10000000000000000000]") {
		e := read(t, s)
		sign, w, err := Sign(e, 1024)
		for most := 0; most <= 1024; most += 31 {
			a, wa, erra := Sign(e, most)
			if erra == api.OK && (a != sign || wa != w) {
				t.Fatal("more budget", s, most)
			}
			if erra == api.ErrBudget {
				b, wb, errb := Resume(e, most+1, 1024)
				if b != sign || wb != w || errb != err {
					t.Fatal("taken up", s, most, b, wb, errb)
				}
			}
		}
	}
	if _, w, err := Resume(read(t, "1"), 33, 64); w != 64 || err != api.OK {
		t.Fatal(w)
	}
	if _, w, err := Resume(read(t, "1"), 64, 64); w != 64 || err != api.OK {
		t.Fatal(w)
	}
	if s, w, err := Resume(read(t, "1"), 65, 127); s != 0 || w != 0 || err != api.ErrBudget {
		t.Fatal(s, w)
	}
}

func TestFloors(t *testing.T) {
	for _, x := range []struct {
		s    string
		m    uint64
		most int
		want string
		w    int
		err  api.Errno
	}{
		{"pi", 1000, 32, "3141", 32, api.OK}, {"-pi", 1000, 32, "-3142", 32, api.OK}, {"sqrt(2)", 10, 31, "0", 0, api.ErrBudget}, {"1/3", 3, 32, "1", 32, api.OK}, {"[-1/3]", 3, 32, "-1", 32, api.OK}, {"sqrt(4)", 1, 32, "2", 32, api.OK}, {"sqrt(2)*sqrt(2)", 1, 64, "2", 32, api.OK}, {"sqrt(2)*sqrt(3)/sqrt(6)", 7, 1024, "7", 64, api.OK},
		{"exp(log(2))", 1, 1024, "0", 0, api.ErrBudget}, {"sqrt(-1)", 1, 64, "0", 0, api.ErrDomain}, {"pi", 0, 64, "0", 0, api.ErrArg}, {"sqrt(-1)", 0, 64, "0", 0, api.ErrArg}, {"if pi<4 then sqrt(2)*sqrt(2) else pi", 5, 64, "10", 32, api.OK}, {"0", 5, 64, "0", 32, api.OK}, {"pi-pi", 5, 64, "0", 0, api.ErrBudget}, {"sqrt(2)*sqrt(2)+0*exp(0)", 1, 64, "0", 0, api.ErrBudget}, {"log(pi-pi)", 5, 64, "0", 0, api.ErrBudget},
	} {
		f, w, err := Floor(read(t, x.s), nat.Of(x.m), x.most)
		if integer.Text(f) != x.want || w != x.w || err != x.err || !integer.Right(f) {
			t.Fatal(x, integer.Text(f), w, err)
		}
	}
	for _, s := range many {
		e := read(t, s)
		fine, _, err := Floor(e, nat.Of(1000000), 1024)
		if err != api.OK {
			t.Fatal(s, err)
		}
		coarse, _, _ := Floor(e, nat.Of(1000), 1024)
		if cut, _, _ := integer.DivMod(fine, integer.Of(1000)); integer.Cmp(cut, coarse) != 0 {
			t.Fatal("cut", s)
		}
		moved, _, _ := Floor(read(t, "7+("+s+")"), nat.Of(1000), 1024)
		if integer.Cmp(moved, integer.Add(coarse, integer.Of(7000))) != 0 {
			t.Fatal("moved", s)
		}
		q, _ := rat.Make(coarse, integer.Of(1000))
		next, _ := rat.Make(integer.Add(coarse, integer.Of(1)), integer.Of(1000))
		below, _, _ := Cmp(e, []api.Node{{Op: api.Num, Q: q}}, 1024)
		above, _, _ := Cmp(e, []api.Node{{Op: api.Num, Q: next}}, 1024)
		if below < 0 || above >= 0 {
			t.Fatal("between", s)
		}
	}
}

func TestOpen(t *testing.T) {
	for _, s := range []string{"exp(log(2))-2", "sin(pi)", "exp(1)*exp(-1)-1", "4*atan(1)-pi"} {
		if sign, w, err := Sign(read(t, s), 2048); sign != 0 || w != 0 || err != api.ErrBudget {
			t.Fatal(s, sign, w, err)
		}
	}
	for s, b := range map[string]int{"root(3,2)*root(3,4)-2": 256, "rootof(3;1,0,-10,0,1)-sqrt(2)-sqrt(3)": 256, "sqrt(2+sqrt(3))-(sqrt(6)+sqrt(2))/2": 512} {
		if sign, w, err := Sign(read(t, s), b); sign != 0 || w == 0 || err != api.OK {
			t.Fatal(s, sign, w, err)
		}
	}
}
