package mul

import (
	"math/big"
	"math/rand"
	"slices"
	"testing"

	"ziggurat/nat"
	"ziggurat/ntt"
)

const full = 1<<32 - 1

func toBig(a []uint32) *big.Int {
	w := make([]big.Word, (len(a)+1)/2)
	for i, x := range a {
		w[i/2] |= big.Word(x) << (32 * (i % 2))
	}
	return new(big.Int).SetBits(w)
}

// natural has n limbs; of the edge kind they are 0 or full.
func natural(r *rand.Rand, n int, edge bool) []uint32 {
	a := make([]uint32, n)
	for i := range a {
		if a[i] = r.Uint32(); edge {
			a[i] = []uint32{0, full, full, 1}[r.Intn(4)]
		}
	}
	if n > 0 && a[n-1] == 0 {
		a[n-1] = full
	}
	return a
}

func ways() map[string]func(a, b []uint32) []uint32 {
	return map[string]func(a, b []uint32) []uint32{"School": School, "Karatsuba": Karatsuba, "Toom": Toom, "Fast": Fast, "Mul": Mul}
}

func same(t *testing.T, what string, got []uint32, want *big.Int) {
	t.Helper()
	if !nat.Right(got) || toBig(got).Cmp(want) != 0 {
		t.Fatal(what, len(got))
	}
}

func TestAllWaysTellTheProduct(t *testing.T) {
	r := rand.New(rand.NewSource(1))
	lengths := []int{0, 1, 2, 3, 11, 12, 13, 23, 47, 79, 80, 81, 82, 83, 159, 161, 201, 400, 401, 403, 601, 1203}
	for _, n := range lengths {
		for _, m := range lengths {
			a, b := natural(r, n, m%2 == 0), natural(r, m, n%3 == 0)
			keep, want := slices.Clone(a), new(big.Int).Mul(toBig(a), toBig(b))
			for name, f := range ways() {
				same(t, name, f(a, b), want)
			}
			if !slices.Equal(a, keep) {
				t.Fatal("changed", n, m)
			}
		}
	}
	if !slices.Equal(Mul([]uint32{full}, []uint32{full}), []uint32{1, full - 1}) {
		t.Fatal("example")
	}
}

func TestLongProducts(t *testing.T) {
	r := rand.New(rand.NewSource(2))
	for _, n := range [][2]int{{5199, 5200}, {5200, 5201}, {32768, 32768}, {32769, 32767}, {65535, 1}, {60000, 5300}, {40000, 25000}, {33000, 32500}, {50000, 400}, {10000, 6000}} {
		a, b := natural(r, n[0], n[1]%2 == 0), natural(r, n[1], n[1]%2 == 0)
		want := new(big.Int).Mul(toBig(a), toBig(b))
		for _, name := range []string{"Karatsuba", "Toom", "Fast", "Mul"} {
			same(t, name, ways()[name](a, b), want)
			same(t, name, ways()[name](b, a), want)
		}
	}
	top := slices.Repeat([]uint32{full}, 32768)
	same(t, "of the greatest", Fast(top, top), new(big.Int).Mul(toBig(top), toBig(top)))
	same(t, "of the greatest", Toom(top, top), new(big.Int).Mul(toBig(top), toBig(top)))
}

func TestRing(t *testing.T) {
	r := rand.New(rand.NewSource(3))
	for name, f := range ways() {
		for _, n := range []int{0, 1, 7, 90, 500} {
			a, b, c := natural(r, n, true), natural(r, n/2+1, false), natural(r, n+3, true)
			if !slices.Equal(f(a, b), f(b, a)) || !slices.Equal(f(f(a, b), c), f(a, f(b, c))) {
				t.Fatal(name, n)
			}
			if !slices.Equal(f(nat.Add(a, b), c), nat.Add(f(a, c), f(b, c))) {
				t.Fatal(name, n, "taken apart")
			}
			if got := f(nat.Shl(a, 77), b); !slices.Equal(got, nat.Shl(f(a, b), 77)) {
				t.Fatal(name, n, "shifted")
			}
			if s, p := nat.Bits(a)+nat.Bits(b), nat.Bits(f(a, b)); n > 0 && p != s && p != s-1 {
				t.Fatal(name, n, "bits")
			}
			rest := func(x []uint32) uint64 { return new(big.Int).Mod(toBig(x), big.NewInt(4294967291)).Uint64() }
			hi := new(big.Int).Mul(new(big.Int).SetUint64(rest(a)), new(big.Int).SetUint64(rest(b)))
			if hi.Mod(hi, big.NewInt(4294967291)).Uint64() != rest(f(a, b)) {
				t.Fatal(name, n, "rests")
			}
		}
	}
}

func TestPow(t *testing.T) {
	for _, a := range [][]uint32{nil, {1}, {2}, {3}, {full}, {0, 1}, {7, 8, 9}} {
		for _, n := range []int{0, 1, 2, 3, 5, 64, 100} {
			same(t, "power", Pow(a, n), new(big.Int).Exp(toBig(a), big.NewInt(int64(n)), nil))
		}
	}
	if len(Pow(nil, 1<<62)) != 0 || !slices.Equal(Pow([]uint32{1}, 1<<62+1), []uint32{1}) || len(Pow([]uint32{2}, 1<<21-1)) != 65536 {
		t.Fatal("great exponents")
	}
}

func TestCarry(t *testing.T) {
	if !slices.Equal(Carry([][3]uint32{{5, 1, 0}, {7, 0, 0}}), []uint32{5, 8}) || len(Carry(nil)) != 0 || len(Carry([][3]uint32{{}, {}})) != 0 {
		t.Fatal("example")
	}
	r := rand.New(rand.NewSource(4))
	for n := range 30 {
		c, want := make([][3]uint32, n), new(big.Int)
		for k := range c {
			copy(c[k][:], natural(r, 3, n%2 == 0))
			want.Add(want, new(big.Int).Lsh(toBig(c[k][:]), uint(32*k)))
		}
		same(t, "carried", Carry(c), want)
		a, b := natural(r, n, true), natural(r, 2*n, true)
		same(t, "layer 2", Carry(ntt.Conv(a, b)), new(big.Int).Mul(toBig(a), toBig(b)))
	}
}

func BenchmarkMul(b *testing.B) {
	r := rand.New(rand.NewSource(5))
	for _, n := range []int{4, 16, 64, 256, 1024, 4096, 8192, 16384, 32768} {
		x, y := natural(r, n, false), natural(r, n, false)
		for _, name := range []string{"School", "Karatsuba", "Toom", "Fast", "Mul"} {
			if name == "School" && n > 1024 || name == "Fast" && n < 1024 {
				continue
			}
			f := ways()[name]
			b.Run(name+"-"+big.NewInt(int64(n)).String(), func(b *testing.B) {
				for b.Loop() {
					f(x, y)
				}
			})
		}
	}
}
