package div

import (
	"math/big"
	"math/rand"
	"slices"
	"testing"

	"ziggurat/api"
	"ziggurat/mul"
	"ziggurat/nat"
)

const full = 1<<32 - 1

func toBig(a []uint32) *big.Int {
	w := make([]big.Word, (len(a)+1)/2)
	for i, x := range a {
		w[i/2] |= big.Word(x) << (32 * (i % 2))
	}
	return new(big.Int).SetBits(w)
}

func natural(r *rand.Rand, n int) []uint32 {
	a := make([]uint32, n)
	edge := r.Intn(3)
	for i := range a {
		if a[i] = r.Uint32(); edge == 0 {
			a[i] = []uint32{0, full, full, 1, 1 << 31}[r.Intn(5)]
		} else if edge == 1 {
			a[i] = []uint32{0, full}[i*4/n%2]
		}
	}
	if n > 0 && a[n-1] == 0 {
		a[n-1] = []uint32{full, 1, 1 << 31}[r.Intn(3)]
	}
	return a
}

type way func(a, b []uint32) ([]uint32, []uint32, api.Errno)

func ways() map[string]way {
	return map[string]way{"DivMod": DivMod, "Newton": Newton, "Ziegler": Ziegler}
}

func check(t *testing.T, a, b []uint32) {
	t.Helper()
	wantQ, wantR := new(big.Int).QuoRem(toBig(a), toBig(b), new(big.Int))
	keepA, keepB := slices.Clone(a), slices.Clone(b)
	for name, f := range ways() {
		q, r, err := f(a, b)
		if err != api.OK || !nat.Right(q) || !nat.Right(r) || toBig(q).Cmp(wantQ) != 0 || toBig(r).Cmp(wantR) != 0 {
			t.Fatal(name, len(a), len(b), err)
		}
		if nat.Cmp(r, b) >= 0 || !slices.Equal(nat.Add(mul.Mul(q, b), r), a) || !slices.Equal(a, keepA) || !slices.Equal(b, keepB) {
			t.Fatal(name, "back")
		}
	}
}

func TestAllWaysTellQuotientAndRest(t *testing.T) {
	r := rand.New(rand.NewSource(1))
	for _, n := range []int{0, 1, 2, 3, 4, 5, 8, 17, 40, 799, 801, 1601, 2403, 3500} {
		for _, m := range []int{1, 2, 3, 4, 5, 9, 30, 799, 800, 801, 1601} {
			for range 3 {
				check(t, natural(r, n), natural(r, m))
			}
		}
	}
	for range 3000 {
		check(t, natural(r, r.Intn(12)), natural(r, 1+r.Intn(6)))
	}
	// Quotients at whose every digit the first guess is too great.
	for _, n := range []int{3, 4, 7, 900, 1700} {
		b := append(make([]uint32, n-1), 1<<31)
		b[0] = 1
		check(t, slices.Repeat([]uint32{full}, 2*n), b)
		check(t, nat.Shl(b, 32*n), b)
		top := slices.Repeat([]uint32{full}, n)
		check(t, mul.Mul(top, top), top)
		less, _ := nat.Sub(mul.Mul(top, top), []uint32{1})
		check(t, less, top)
	}
}

func TestLongQuotients(t *testing.T) {
	r := rand.New(rand.NewSource(2))
	for _, n := range [][2]int{{65536, 30000}, {20000, 10000}, {65536, 400}, {8000, 7000}} {
		check(t, natural(r, n[0]), natural(r, n[1]))
	}
}

func TestZero(t *testing.T) {
	for name, f := range ways() {
		if q, r, err := f([]uint32{5}, nil); err != api.ErrZero || q != nil || r != nil {
			t.Fatal(name)
		}
		if q, r, err := f(nil, nil); err != api.ErrZero || q != nil || r != nil {
			t.Fatal(name)
		}
		if q, r, err := f([]uint32{5}, []uint32{7}); err != api.OK || len(q) != 0 || !slices.Equal(r, []uint32{5}) {
			t.Fatal(name)
		}
	}
	if q, err := Recip(nil, 5); err != api.ErrZero || q != nil {
		t.Fatal("Recip")
	}
	if q, r, err := Small([]uint32{1}, 0); err != api.ErrZero || q != nil || r != 0 {
		t.Fatal("Small")
	}
}

func TestProductsAndShifts(t *testing.T) {
	r := rand.New(rand.NewSource(3))
	for name, f := range ways() {
		for _, n := range []int{1, 5, 160, 900} {
			a, b, c := natural(r, 2*n), natural(r, n), natural(r, n/2+1)
			if q, rest, _ := f(mul.Mul(a, b), b); !slices.Equal(q, a) || len(rest) != 0 {
				t.Fatal(name, "product")
			}
			q, rest, _ := f(a, b)
			if q2, r2, _ := f(nat.Add(a, mul.Mul(b, c)), b); !slices.Equal(q2, nat.Add(q, c)) || !slices.Equal(r2, rest) {
				t.Fatal(name, "multiple")
			}
			q2, _, _ := f(q, c)
			if q3, _, _ := f(a, mul.Mul(b, c)); !slices.Equal(q2, q3) {
				t.Fatal(name, "one by one")
			}
			if q4, r4, _ := f(nat.Shl(a, 37), nat.Shl(b, 37)); !slices.Equal(q4, q) || !slices.Equal(r4, nat.Shl(rest, 37)) {
				t.Fatal(name, "shifted")
			}
		}
	}
}

func TestRecip(t *testing.T) {
	r := rand.New(rand.NewSource(4))
	for _, m := range []int{1, 2, 3, 64, 65, 300, 1000} {
		for _, n := range []int{0, 1, 8, 31, 32 * m, 32*m + 1, 64*m + 100, 32*m + 1999, 32*m + 2001, 32*m + 9000, 50000} {
			for _, b := range [][]uint32{natural(r, m), slices.Repeat([]uint32{full}, m), nat.Shl([]uint32{1}, 32*m-1), nat.Shl([]uint32{1}, 32*m-32)} {
				q, err := Recip(b, n)
				want := new(big.Int).Quo(new(big.Int).Lsh(big.NewInt(1), uint(n)), toBig(b))
				if err != api.OK || !nat.Right(q) || toBig(q).Cmp(want) != 0 {
					t.Fatal(m, n)
				}
			}
		}
	}
	if q, _ := Recip([]uint32{3}, 8); !slices.Equal(q, []uint32{85}) {
		t.Fatal(q)
	}
	if q, _ := Recip([]uint32{2}, 1<<21); nat.Bits(q) != 1<<21 || len(q) != 65536 {
		t.Fatal("greatest")
	}
}

func TestSmall(t *testing.T) {
	r := rand.New(rand.NewSource(5))
	for n := range 20 {
		for _, m := range []uint32{1, 2, 3, 10, full, 1 << 31, r.Uint32() | 1} {
			a := natural(r, n)
			q, rest, err := Small(a, m)
			wantQ, wantR := new(big.Int).QuoRem(toBig(a), big.NewInt(int64(m)), new(big.Int))
			if err != api.OK || !nat.Right(q) || toBig(q).Cmp(wantQ) != 0 || uint64(rest) != wantR.Uint64() {
				t.Fatal(n, m)
			}
		}
	}
}

func BenchmarkDiv(b *testing.B) {
	r := rand.New(rand.NewSource(6))
	for _, n := range []int{2, 8, 32, 100, 200, 400, 1000, 4000, 32768} {
		x, y := natural(r, 2*n), natural(r, n)
		for name, f := range map[string]way{"school": school, "Ziegler": Ziegler, "Newton": Newton} {
			if name == "school" && n > 4000 {
				continue
			}
			b.Run(name+"-"+big.NewInt(int64(n)).String(), func(b *testing.B) {
				for b.Loop() {
					f(x, y)
				}
			})
		}
	}
}
