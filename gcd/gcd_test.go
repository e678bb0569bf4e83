package gcd

import (
	"math/big"
	"math/rand"
	"slices"
	"testing"

	"ziggurat/api"
	"ziggurat/div"
	"ziggurat/integer"
	"ziggurat/mul"
	"ziggurat/nat"
)

const full = 1<<32 - 1

func toBig(a []uint32) *big.Int {
	w := make([]big.Word, (len(a)+1)/2)
	for i, x := range a {
		w[i/2] |= big.Word(x) << (32 * (i % 2))
	}
	return new(big.Int).SetBits(w)
}

func natural(r *rand.Rand, n int) []uint32 {
	a := make([]uint32, n)
	edge := r.Intn(2) == 0
	for i := range a {
		if a[i] = r.Uint32(); edge {
			a[i] = []uint32{0, full, 1}[r.Intn(3)]
		}
	}
	if n > 0 {
		a[n-1] |= 1
	}
	return a
}

func fibonacci(n int) ([]uint32, []uint32) {
	a, b := []uint32{1}, []uint32{1}
	for range n {
		a, b = nat.Add(a, b), a
	}
	return a, b
}

// pairs are naturals with and without common divisors.
func pairs() [][2][]uint32 {
	r := rand.New(rand.NewSource(1))
	f, g := fibonacci(500)
	l := [][2][]uint32{{nil, nil}, {{5}, nil}, {nil, {5}}, {{1}, {1}}, {{12}, {18}}, {{18}, {12}}, {{7}, {7}}, {f, g}, {g, f}, {nat.Shl([]uint32{1}, 300), {0, 6}}}
	for _, n := range []int{1, 2, 3, 4, 8, 30} {
		for _, m := range []int{1, 2, 3, 7, 31, 40} {
			a, b, c := natural(r, n), natural(r, m), natural(r, (n+m)/3)
			l = append(l, [2][]uint32{a, b}, [2][]uint32{mul.Mul(a, c), mul.Mul(b, c)}, [2][]uint32{mul.Mul(a, b), b}, [2][]uint32{a, mul.Mul(a, c)}, [2][]uint32{nat.Shl(b, 1), mul.Mul(a, nat.Shl(b, 1))})
		}
	}
	return l
}

func TestAllWaysTellTheGreatest(t *testing.T) {
	for _, p := range pairs() {
		want := new(big.Int).GCD(nil, nil, toBig(p[0]), toBig(p[1]))
		keep := slices.Clone(p[0])
		for i, f := range []func(a, b []uint32) []uint32{Gcd, Lehmer, Half} {
			if g := f(p[0], p[1]); !nat.Right(g) || toBig(g).Cmp(want) != 0 || !slices.Equal(p[0], keep) {
				t.Fatal(i, p, g)
			}
		}
	}
}

// rows is Euclid's rows, as they are written.
func rows(a, b []uint32) ([3]api.Int, [][]uint32) {
	one := integer.Of(1)
	last, row := [3]api.Int{integer.Make(false, a), one, {}}, [3]api.Int{integer.Make(false, b), {}, one}
	var quots [][]uint32
	for len(row[0].Mag) > 0 {
		q, _, _ := div.DivMod(last[0].Mag, row[0].Mag)
		quots = append(quots, q)
		var next [3]api.Int
		for i := range 3 {
			next[i] = integer.Sub(last[i], integer.Mul(integer.Make(false, q), row[i]))
		}
		last, row = row, next
	}
	return last, quots
}

func checkExt(t *testing.T, a, b []uint32) {
	t.Helper()
	want, quots := rows(a, b)
	g, u, v := Ext(a, b)
	if integer.Cmp(integer.Make(false, g), want[0]) != 0 || integer.Cmp(u, want[1]) != 0 || integer.Cmp(v, want[2]) != 0 || !integer.Right(u) || !integer.Right(v) {
		t.Fatal("Ext", a, b, g, u, v, want)
	}
	if q := Quots(a, b); !slices.EqualFunc(q, quots, slices.Equal) {
		t.Fatal("Quots", a, b, q, quots)
	}
}

func TestExtAndQuots(t *testing.T) {
	for _, p := range pairs() {
		checkExt(t, p[0], p[1])
	}
	for a := range uint64(40) {
		for b := range uint64(40) {
			checkExt(t, nat.Of(a), nat.Of(b))
		}
	}
	g, u, v := Ext([]uint32{12}, []uint32{18})
	if g[0] != 6 || integer.Text(u) != "-1" || integer.Text(v) != "1" || len(Quots([]uint32{1}, nil)) != 0 {
		t.Fatal("example")
	}
}

func TestQuotsGoBack(t *testing.T) {
	for _, p := range pairs() {
		q := Quots(p[0], p[1])
		a, b := Gcd(p[0], p[1]), []uint32(nil)
		for _, x := range slices.Backward(q) {
			a, b = nat.Add(mul.Mul(x, a), b), a
		}
		if !slices.Equal(a, p[0]) || !slices.Equal(b, p[1]) {
			t.Fatal(p)
		}
	}
}

func TestLong(t *testing.T) {
	r := rand.New(rand.NewSource(2))
	for _, n := range [][2]int{{1000, 900}, {leastHalf, leastHalf + 10}, {5000, 4800}, {9000, 3100}} {
		a, b, c := natural(r, n[0]), natural(r, n[1]), natural(r, 300)
		a, b = mul.Mul(a, c), mul.Mul(b, c)
		g := Lehmer(a, b)
		if !slices.Equal(g, Half(a, b)) || !slices.Equal(g, Gcd(a, b)) {
			t.Fatal(n)
		}
		one, u, v := Ext(a, b)
		if !slices.Equal(one, g) || integer.Cmp(integer.Make(false, g), integer.Add(integer.Mul(u, integer.Make(false, a)), integer.Mul(v, integer.Make(false, b)))) != 0 {
			t.Fatal("Ext", n)
		}
		if nat.Cmp(nat.Shl(mul.Mul(u.Mag, g), 1), b) > 0 || nat.Cmp(nat.Shl(mul.Mul(v.Mag, g), 1), a) > 0 {
			t.Fatal("great cofactors", n)
		}
	}
	a := natural(r, leastHalf+5)
	for _, m := range []uint32{1, 2, 3} {
		for _, p := range [][2][]uint32{{a, mul.Mul(a, []uint32{m})}, {mul.Mul(a, []uint32{m}), a}, {mul.Mul(a, []uint32{5}), mul.Mul(a, []uint32{m})}} {
			checkExt(t, p[0], p[1])
		}
	}
}

func TestInverse(t *testing.T) {
	for _, p := range pairs() {
		a, m := p[0], p[1]
		x, err := Inverse(a, m)
		if len(m) == 0 || nat.Cmp(Gcd(a, m), []uint32{1}) > 0 {
			if err != api.ErrNone || x != nil {
				t.Fatal("no inverse", p)
			}
			continue
		}
		one := new(big.Int).Mod(new(big.Int).Mul(toBig(a), toBig(x)), toBig(m))
		if err != api.OK || nat.Cmp(x, m) >= 0 || one.Cmp(new(big.Int).Mod(big.NewInt(1), toBig(m))) != 0 {
			t.Fatal(p, x, err)
		}
	}
	if x, _ := Inverse([]uint32{3}, []uint32{7}); x[0] != 5 {
		t.Fatal(x)
	}
	if x, err := Inverse(nil, []uint32{1}); len(x) != 0 || err != api.OK {
		t.Fatal("modulo 1")
	}
}

func TestPowMod(t *testing.T) {
	r := rand.New(rand.NewSource(3))
	for _, p := range pairs()[1:60] {
		for _, e := range [][]uint32{nil, {1}, {2}, {255}, natural(r, 3)} {
			z, err := PowMod(p[0], e, p[1])
			if len(p[1]) == 0 {
				if err != api.ErrZero || z != nil {
					t.Fatal("modulo 0")
				}
				continue
			}
			want := new(big.Int).Exp(toBig(p[0]), toBig(e), toBig(p[1]))
			if err != api.OK || toBig(z).Cmp(want) != 0 || !nat.Right(z) {
				t.Fatal(p, e, z)
			}
		}
	}
	if z, _ := PowMod([]uint32{2}, []uint32{10}, []uint32{1000}); z[0] != 24 {
		t.Fatal(z)
	}
	fermat := nat.Of(1<<61 - 1)
	if z, _ := PowMod([]uint32{12345, 6}, nat.Of(1<<61-2), fermat); !slices.Equal(z, []uint32{1}) {
		t.Fatal("Fermat")
	}
}

func BenchmarkGcd(b *testing.B) {
	r := rand.New(rand.NewSource(4))
	for _, n := range []int{2, 10, 100, 1000, 3000, 6000, 20000} {
		x, y := natural(r, n), natural(r, n)
		for name, f := range map[string]func(a, b []uint32) []uint32{"Lehmer": Lehmer, "Half": Half} {
			b.Run(name+"-"+big.NewInt(int64(n)).String(), func(b *testing.B) {
				for b.Loop() {
					f(x, y)
				}
			})
		}
	}
}
