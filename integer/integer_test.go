package integer

import (
	"math"
	"math/big"
	"math/rand"
	"reflect"
	"slices"
	"testing"

	"ziggurat/api"
)

const full = 1<<32 - 1

func toBig(a api.Int) *big.Int {
	z := new(big.Int)
	for _, x := range slices.Backward(a.Mag) {
		z.Lsh(z, 32).Or(z, big.NewInt(int64(x)))
	}
	if a.Neg {
		z.Neg(z)
	}
	return z
}

func same(t *testing.T, what string, got api.Int, want *big.Int) {
	t.Helper()
	if !Right(got) || toBig(got).Cmp(want) != 0 {
		t.Fatalf("%s: %v, not %v", what, got, want)
	}
}

func numbers() []api.Int {
	r := rand.New(rand.NewSource(1))
	l := []api.Int{{}, Of(1), Of(-1), Of(2), Of(-7), Of(full), Of(-full), Of(1 << 32), Of(-1 << 32), Of(math.MinInt64), Of(math.MaxInt64)}
	for n := range 20 {
		a := make([]uint32, n/2)
		for i := range a {
			a[i] = []uint32{0, 1, full, r.Uint32()}[r.Intn(4)]
		}
		l = append(l, Make(n%2 == 0, a))
	}
	return l
}

func equal(a, b api.Int) bool { return Cmp(a, b) == 0 && a.Neg == b.Neg && slices.Equal(a.Mag, b.Mag) }

func TestRightOfAndMake(t *testing.T) {
	if !Right(api.Int{}) || Right(api.Int{Neg: true}) || Right(api.Int{Mag: []uint32{0}}) || Right(api.Int{Mag: make([]uint32, 70000)}) || !Right(Make(true, []uint32{0, 0})) {
		t.Fatal("Right")
	}
	for _, n := range []int64{0, 1, -1, math.MaxInt64, math.MinInt64, -full} {
		same(t, "Of", Of(n), big.NewInt(n))
	}
	if a := Make(true, []uint32{0, 3, 0}); !a.Neg || !slices.Equal(a.Mag, []uint32{0, 3}) {
		t.Fatal(a)
	}
}

func TestRing(t *testing.T) {
	l := numbers()
	for _, a := range l {
		x := toBig(a)
		same(t, "Neg", Neg(a), new(big.Int).Neg(x))
		if Sign(a) != x.Sign() {
			t.Fatal("Sign", x)
		}
		for _, b := range l {
			y := toBig(b)
			same(t, "Add", Add(a, b), new(big.Int).Add(x, y))
			same(t, "Sub", Sub(a, b), new(big.Int).Sub(x, y))
			same(t, "Mul", Mul(a, b), new(big.Int).Mul(x, y))
			c := l[8]
			if Cmp(a, b) != x.Cmp(y) || Cmp(Add(a, c), Add(b, c)) != Cmp(a, b) || Cmp(Mul(a, c), Mul(b, c)) != -Cmp(a, b) {
				t.Fatal("order", x, y)
			}
			if !equal(Mul(Add(a, b), c), Add(Mul(a, c), Mul(b, c))) || !equal(Add(a, b), Add(b, a)) || !equal(Mul(Mul(a, b), c), Mul(a, Mul(b, c))) {
				t.Fatal("ring", x, y)
			}
		}
	}
}

func TestQuotients(t *testing.T) {
	l := numbers()
	for _, a := range l {
		for _, b := range l {
			q, r, err := DivMod(a, b)
			e, is := Exact(a, b)
			if Sign(b) == 0 {
				if err != api.ErrZero || is || !reflect.DeepEqual([]api.Int{q, r, e}, make([]api.Int, 3)) {
					t.Fatal("by 0")
				}
				continue
			}
			wantQ, wantR := new(big.Int).DivMod(toBig(a), toBig(b), new(big.Int))
			same(t, "quotient", q, wantQ)
			same(t, "rest", r, wantR)
			if is != (Sign(r) == 0) || is && !equal(e, q) || !is && len(e.Mag) != 0 {
				t.Fatal("Exact", a, b)
			}
			if p, is := Exact(Mul(a, b), b); !is || !equal(p, a) {
				t.Fatal("Exact of a product", a, b)
			}
		}
	}
}

func TestPowersAndShifts(t *testing.T) {
	for _, a := range numbers() {
		x := toBig(a)
		for _, n := range []int{0, 1, 2, 3, 10, 31, 32, 33, 64, 200} {
			if n <= 10 {
				same(t, "Pow", Pow(a, n), new(big.Int).Exp(x, big.NewInt(int64(n)), nil))
			}
			same(t, "left", Shift(a, n), new(big.Int).Lsh(x, uint(n)))
			same(t, "right", Shift(a, -n), new(big.Int).Rsh(x, uint(n)))
			if q, _, _ := DivMod(a, Shift(Of(1), n)); !equal(q, Shift(a, -n)) {
				t.Fatal("a shift is a quotient", a, n)
			}
		}
		if want := min(Sign(a), 0); !equal(Shift(a, -1<<21), Of(int64(want))) {
			t.Fatal("the greatest shift", a)
		}
	}
	if !equal(Shift(Of(-1), -5), Of(-1)) || len(Shift(Of(1), 1<<21-1).Mag) != 65536 {
		t.Fatal("shifts")
	}
}

func TestTexts(t *testing.T) {
	for _, a := range numbers() {
		b, at, err := Read(Text(a))
		if Text(a) != toBig(a).String() || at != 0 || err != api.OK || !equal(a, b) {
			t.Fatal(a)
		}
	}
	for s, n := range map[string]int64{"-007": -7, "-0": 0, "000": 0, "12": 12, "-00": 0} {
		if a, at, err := Read(s); !equal(a, Of(n)) || !Right(a) || at != 0 || err != api.OK {
			t.Fatal(s)
		}
	}
	for s, want := range map[string]int{"": 0, "-": 1, "1a": 1, "+1": 0, "--1": 1, "-a": 1, "1-": 1, " 1": 0, "-12 ": 3, "0x1": 1, "1:": 1, "1/": 1} {
		if a, at, err := Read(s); len(a.Mag) != 0 || a.Neg || at != want || err != api.ErrDigit {
			t.Fatal(s, at, err)
		}
	}
}
