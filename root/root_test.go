package root

import (
	"math/big"
	"math/rand"
	"slices"
	"testing"

	"ziggurat/api"
	"ziggurat/mul"
	"ziggurat/nat"
)

const full = 1<<32 - 1

func toBig(a []uint32) *big.Int {
	w := make([]big.Word, (len(a)+1)/2)
	for i, x := range a {
		w[i/2] |= big.Word(x) << (32 * (i % 2))
	}
	return new(big.Int).SetBits(w)
}

func naturals() [][]uint32 {
	r := rand.New(rand.NewSource(1))
	var l [][]uint32
	for i := range uint64(130) {
		l = append(l, nat.Of(i))
	}
	for _, n := range []uint64{full, 1 << 32, 1<<62 - 1, 1 << 62, 1<<64 - 1} {
		l = append(l, nat.Of(n))
	}
	for _, n := range []int{2, 3, 4, 5, 8, 17, 60, 300} {
		a := make([]uint32, n)
		for i := range a {
			a[i] = r.Uint32() | 1
		}
		top := slices.Repeat([]uint32{full}, n)
		l = append(l, a, top, nat.Shl([]uint32{1}, 32*n-1), nat.Shl([]uint32{1}, 32*n-2))
		for _, k := range []int{2, 3, 5} {
			p := mul.Pow(a, k)
			l = append(l, p, less(p, []uint32{1}), nat.Add(p, []uint32{1}))
		}
	}
	return l
}

func TestRootsLieBetween(t *testing.T) {
	for _, a := range naturals() {
		for _, k := range []int{1, 2, 3, 4, 5, 7, 16, 31, 100, 1000, 100000, 1000000} {
			r, err := Root(a, k)
			if err != api.OK || !nat.Right(r) {
				t.Fatal(a, k)
			}
			if nat.Bits(a) <= k {
				if want := min(1, len(a)); nat.Cmp(r, nat.Of(uint64(want))) != 0 {
					t.Fatal(a, k, r)
				}
				continue
			}
			if nat.Cmp(mul.Pow(r, k), a) > 0 || nat.Cmp(mul.Pow(nat.Add(r, []uint32{1}), k), a) <= 0 {
				t.Fatal(a, k, r)
			}
		}
		s, rest := Sqrt(a)
		want := new(big.Int).Sqrt(toBig(a))
		if toBig(s).Cmp(want) != 0 || !slices.Equal(nat.Add(mul.Mul(s, s), rest), a) || !nat.Right(rest) {
			t.Fatal("Sqrt", a, s, rest)
		}
	}
	for _, k := range []int{0, -1, 1000001, -1 << 63} {
		if r, err := Root([]uint32{5}, k); err != api.ErrArg || r != nil {
			t.Fatal(k)
		}
	}
	if r, _ := Root([]uint32{26}, 3); r[0] != 2 {
		t.Fatal(r)
	}
	if s, r := Sqrt([]uint32{full, full}); s[0] != full || !slices.Equal(r, nat.Of(8589934590)) {
		t.Fatal(s, r)
	}
}

func must(a []uint32, k int) []uint32 {
	r, _ := Root(a, k)
	return r
}

func TestRootsOfRoots(t *testing.T) {
	for _, a := range naturals() {
		for _, k := range []int{1, 2, 3, 6} {
			if !slices.Equal(must(must(a, k), 5), must(a, 5*k)) {
				t.Fatal("root of a root", a, k)
			}
			p := mul.Pow(a, k)
			if !slices.Equal(must(p, k), a) || len(a) > 0 && !slices.Equal(must(less(p, []uint32{1}), k), less(a, []uint32{1})) {
				t.Fatal("of a power", a, k)
			}
			if n := 40; !slices.Equal(nat.Shr(must(nat.Shl(a, k*n), k), n), must(a, k)) {
				t.Fatal("scaled", a, k)
			}
		}
	}
}

// greatest is the greatest power that a small number is, by trying all.
func greatest(a uint64) (uint64, int) {
	for k := 62; k > 1 && a > 1; k-- {
		for b := uint64(2); ; b++ {
			p := new(big.Int).Exp(new(big.Int).SetUint64(b), big.NewInt(int64(k)), nil)
			if c := p.Cmp(new(big.Int).SetUint64(a)); c == 0 {
				return b, k
			} else if c > 0 {
				break
			}
		}
	}
	return a, 1
}

func TestPowers(t *testing.T) {
	for n := range uint64(1100) {
		b, k := Power(nat.Of(n))
		wantB, wantK := greatest(n)
		if !slices.Equal(b, nat.Of(wantB)) || k != wantK {
			t.Fatal(n, b, k)
		}
		for j := -1; j < 12; j++ {
			if Is(nat.Of(n), j) != (j > 0 && (n < 2 || k%j == 0)) {
				t.Fatal("Is", n, j)
			}
		}
	}
	for _, b := range []uint64{2, 3, 6, 7, 10, 12, 97, 1<<31 - 1, 3 << 40, 1<<61 - 1} {
		for _, n := range []int{2, 3, 5, 6, 12, 49, 97, 128, 210, 1009} {
			base, k := Power(mul.Pow(nat.Of(b), n))
			if !slices.Equal(base, nat.Of(b)) || k != n {
				t.Fatal(b, n, base, k)
			}
			if a := nat.Add(mul.Pow(nat.Of(b), n), []uint32{6}); b > 6 {
				if c, k := Power(a); !slices.Equal(mul.Pow(c, k), a) || Is(a, n) != (k%n == 0) {
					t.Fatal("beside", b, n)
				}
			}
		}
	}
	if Is([]uint32{8}, 1<<62) || !Is(nil, 1<<62) || !Is([]uint32{1}, 1<<62) || Is([]uint32{4}, -2) || Is(nil, 0) {
		t.Fatal("Is")
	}
	if b, k := Power([]uint32{12}); b[0] != 12 || k != 1 {
		t.Fatal("12")
	}
	r := rand.New(rand.NewSource(9))
	for _, n := range []int{50, 400} {
		a := make([]uint32, n)
		for i := range a {
			a[i] = r.Uint32() | 1
		}
		if b, k := Power(mul.Pow(a, 15)); !slices.Equal(b, a) || k != 15 {
			t.Fatal("long", n, k)
		}
	}
}

func TestLong(t *testing.T) {
	a := slices.Repeat([]uint32{full - 4}, 65536)
	for _, k := range []int{2, 3, 10, 77, 1000, 60000} {
		r := must(a, k)
		if nat.Cmp(mul.Pow(r, k), a) > 0 || nat.Cmp(mul.Pow(nat.Add(r, []uint32{1}), k), a) <= 0 {
			t.Fatal(k)
		}
	}
	if b, k := Power(a); k != 1 || !slices.Equal(a, b) {
		t.Fatal("Power", k)
	}
}
