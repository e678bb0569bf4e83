package ntt

import (
	"math/big"
	"math/rand"
	"slices"
	"testing"

	"ziggurat/api"
)

const full = 1<<32 - 1

func pow(x, n, p uint64) uint64 {
	y := uint64(1)
	for ; n > 0; n >>= 1 {
		if n&1 == 1 {
			y = y * x % p
		}
		x = x * x % p
	}
	return y
}

func numbers(r *rand.Rand, n int, p uint32) []uint32 {
	l := make([]uint32, n)
	for i := range l {
		l[i] = r.Uint32() % p
	}
	return l
}

func must(t *testing.T, i int, l []uint32, back bool) []uint32 {
	t.Helper()
	out, err := Transform(i, l, back)
	if err != api.OK || len(out) != len(l) {
		t.Fatal(i, err, len(out))
	}
	return out
}

func TestPrimesAndRoots(t *testing.T) {
	for i, p := range []uint32{998244353, 469762049, 167772161} {
		if Prime(i) != p || Prime(-1) != 0 || Prime(3) != 0 {
			t.Fatal(i)
		}
		for k := range 21 {
			w := uint64(Root(i, k))
			if w != pow(3, uint64(p-1)>>k, uint64(p)) {
				t.Fatal("root", i, k)
			}
			if k > 0 && uint32(w*w%uint64(p)) != Root(i, k-1) {
				t.Fatal("roots square to roots", i, k)
			}
		}
		if Root(i, -1) != 0 || Root(i, 21) != 0 {
			t.Fatal("no root")
		}
	}
	if Root(3, 1) != 0 || Root(-1, 1) != 0 || Root(0, 1) != 998244352 || Root(2, 0) != 1 {
		t.Fatal("root")
	}
}

func TestTransformIsTheSum(t *testing.T) {
	r := rand.New(rand.NewSource(2))
	for i := range 3 {
		p := uint64(Prime(i))
		for k := range 8 {
			l := numbers(r, 1<<k, uint32(p))
			for _, back := range []bool{false, true} {
				w, share := uint64(Root(i, k)), uint64(1)
				if back {
					w, share = pow(w, p-2, p), pow(uint64(len(l)), p-2, p)
				}
				out := must(t, i, l, back)
				for j, got := range out {
					sum, x, step := uint64(0), uint64(1), pow(w, uint64(j), p)
					for _, y := range l {
						sum = (sum + uint64(y)*x) % p
						x = x * step % p
					}
					if uint64(got) != sum*share%p {
						t.Fatal(i, k, back, j)
					}
				}
			}
		}
	}
	if l := must(t, 0, []uint32{5, 7}, false); !slices.Equal(l, []uint32{12, 998244351}) {
		t.Fatal(l)
	}
}

func TestTransformErrors(t *testing.T) {
	for i, l := range [][]uint32{nil, make([]uint32, 3), make([]uint32, 1<<17), {998244353}, {1, full}} {
		if out, err := Transform(0, l, false); err != api.ErrArg || out != nil {
			t.Fatal(i)
		}
	}
	for _, i := range []int{-1, 3} {
		if _, err := Transform(i, []uint32{1}, true); err != api.ErrArg {
			t.Fatal(i)
		}
	}
}

func TestBackAndLines(t *testing.T) {
	r := rand.New(rand.NewSource(3))
	for i := range 3 {
		p := Prime(i)
		for _, k := range []int{0, 1, 5, 11, 16} {
			n := 1 << k
			a, b := numbers(r, n, p), numbers(r, n, p)
			keep := slices.Clone(a)
			fa, fb := must(t, i, a, false), must(t, i, b, false)
			if !slices.Equal(must(t, i, fa, true), a) || !slices.Equal(must(t, i, must(t, i, a, true), false), a) || !slices.Equal(a, keep) {
				t.Fatal("back", i, k)
			}
			sum, turned, w, x := make([]uint32, n), append(slices.Clone(a[n-1:]), a[:n-1]...), uint64(Root(i, k)), uint64(1)
			for j := range sum {
				sum[j] = (a[j] + b[j]) % p
			}
			fs, ft := must(t, i, sum, false), must(t, i, turned, false)
			for j := range n {
				if fs[j] != (fa[j]+fb[j])%p || uint64(ft[j]) != uint64(fa[j])*x%uint64(p) {
					t.Fatal("lines", i, k, j)
				}
				x = x * w % uint64(p)
			}
		}
	}
}

func TestProductsAllAround(t *testing.T) {
	r := rand.New(rand.NewSource(4))
	for i := range 3 {
		p := Prime(i)
		a, b := numbers(r, 64, p), numbers(r, 64, p)
		fa, fb := must(t, i, a, false), must(t, i, b, false)
		want := make([]uint32, 64)
		for j := range 64 {
			fa[j] = uint32(uint64(fa[j]) * uint64(fb[j]) % uint64(p))
			for k := range 64 {
				want[(j+k)%64] = uint32((uint64(want[(j+k)%64]) + uint64(a[j])*uint64(b[k])) % uint64(p))
			}
		}
		if !slices.Equal(must(t, i, fa, true), want) {
			t.Fatal(i)
		}
	}
}

func TestConv(t *testing.T) {
	r := rand.New(rand.NewSource(5))
	for _, n := range [][2]int{{1, 1}, {1, 40}, {24, 30}, {25, 25}, {25, 40}, {100, 29}, {300, 300}} {
		for range 3 {
			a, b := make([]uint32, n[0]), make([]uint32, n[1])
			for i := range a {
				a[i] = []uint32{full, 0, r.Uint32()}[r.Intn(3)]
			}
			for i := range b {
				b[i] = []uint32{full, full, r.Uint32()}[r.Intn(3)]
			}
			c := Conv(a, b)
			if len(c) != n[0]+n[1]-1 || !slices.Equal(c, Conv(b, a)) {
				t.Fatal(n)
			}
			for k, x := range c {
				want := new(big.Int)
				for i := max(0, k-len(b)+1); i < len(a) && i <= k; i++ {
					want.Add(want, new(big.Int).SetUint64(uint64(a[i])*uint64(b[k-i])))
				}
				got := new(big.Int).SetUint64(uint64(x[2])<<32 | uint64(x[1]))
				if got.Lsh(got, 32).Or(got, big.NewInt(int64(x[0]))); got.Cmp(want) != 0 {
					t.Fatal(n, k, got, want)
				}
			}
		}
	}
	if Conv(nil, []uint32{1}) != nil || Conv([]uint32{1}, nil) != nil {
		t.Fatal("empty")
	}
	if c := Conv([]uint32{full}, []uint32{full}); c[0] != [3]uint32{1, 4294967294, 0} {
		t.Fatal(c)
	}
}

func TestConvOfTheGreatest(t *testing.T) {
	a := slices.Repeat([]uint32{full}, 32768)
	c := Conv(a, a)
	square := new(big.Int).SetUint64(full)
	square.Mul(square, square)
	for _, k := range []int{0, 1, 32767, 32768, 65533, 65534} {
		want := new(big.Int).Mul(square, big.NewInt(int64(min(k+1, 65535-k))))
		got := new(big.Int).SetUint64(uint64(c[k][2])<<32 | uint64(c[k][1]))
		if got.Lsh(got, 32).Or(got, big.NewInt(int64(c[k][0]))); got.Cmp(want) != 0 {
			t.Fatal(k)
		}
	}
}

func BenchmarkConv(b *testing.B) {
	a := slices.Repeat([]uint32{full}, 32768)
	for b.Loop() {
		Conv(a, a)
	}
}
