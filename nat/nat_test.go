package nat

import (
	"math/big"
	"math/rand"
	"slices"
	"testing"
)

const full = 1<<32 - 1

func toBig(a []uint32) *big.Int {
	z := new(big.Int)
	for _, x := range slices.Backward(a) {
		z.Lsh(z, 32).Add(z, big.NewInt(int64(x)))
	}
	return z
}

func same(t *testing.T, what string, got []uint32, want *big.Int) {
	t.Helper()
	if !Right(got) || toBig(got).Cmp(want) != 0 {
		t.Fatalf("%s: %v, not %v", what, got, want)
	}
}

// naturals are edges, and some of each length with limbs that carry.
func naturals() [][]uint32 {
	r := rand.New(rand.NewSource(1))
	l := [][]uint32{nil, {1}, {2}, {full}, {0, 1}, {1, 1}, {full, full}, {0, 0, 1}, {full, full, full, full}, {0, 0, 0, 1 << 31}}
	for n := range 40 {
		a := make([]uint32, n)
		for i := range a {
			a[i] = []uint32{0, 1, full, full - 1, r.Uint32()}[r.Intn(5)]
		}
		l = append(l, Make(a))
	}
	return l
}

func TestRightAndMake(t *testing.T) {
	long := make([]uint32, 65537)
	long[65536] = 1
	if !Right(nil) || !Right(long[1:]) || Right(long) || Right([]uint32{1, 0}) || Right([]uint32{0}) {
		t.Fatal("Right")
	}
	if len(Make([]uint32{0, 0})) != 0 || !slices.Equal(Make([]uint32{0, 5, 0}), []uint32{0, 5}) || len(Make(nil)) != 0 {
		t.Fatal("Make")
	}
	l := []uint32{1, 0, 0}
	_ = append(Make(l), 7)
	if l[1] != 0 {
		t.Fatal("an append to what Make told writes into what was handed in")
	}
}

func TestNumbers(t *testing.T) {
	for _, n := range []uint64{0, 1, full, 1 << 32, 1<<32 + 5, 1<<64 - 1} {
		if m, is := Low(Of(n)); m != n || !is || !Right(Of(n)) {
			t.Fatal(n)
		}
	}
	if n, is := Low([]uint32{0, 0, 1}); n != 0 || is {
		t.Fatal("Low of 2^64")
	}
}

func TestBits(t *testing.T) {
	for _, a := range naturals() {
		n := Bits(a)
		if n != toBig(a).BitLen() || n > 0 && Bit(a, n-1) != 1 || Bit(a, n) != 0 || Bit(a, -1) != 0 || Bit(a, n+1000) != 0 {
			t.Fatal(a)
		}
		sum := []uint32(nil)
		for i := range n {
			sum = Add(sum, Shl(Of(uint64(Bit(a, i))), i))
		}
		if !slices.Equal(sum, a) {
			t.Fatal("sum of bits", a, sum)
		}
	}
}

func TestSums(t *testing.T) {
	l := naturals()
	for _, a := range l {
		for _, b := range l {
			x, y := toBig(a), toBig(b)
			same(t, "sum", Add(a, b), new(big.Int).Add(x, y))
			if Cmp(a, b) != x.Cmp(y) || Cmp(Add(a, b), a) != min(len(b), 1) {
				t.Fatal("order", a, b)
			}
			if d, is := Sub(a, b); is != (x.Cmp(y) >= 0) || !is && len(d) > 0 {
				t.Fatal("Sub", a, b)
			} else if is {
				same(t, "rest", d, new(big.Int).Sub(x, y))
			}
			if d, is := Sub(Add(a, b), b); !is || !slices.Equal(d, a) {
				t.Fatal("taken away", a, b)
			}
			if c := l[7]; !slices.Equal(Add(Add(a, b), c), Add(a, Add(b, c))) || Cmp(Add(a, c), Add(b, c)) != Cmp(a, b) {
				t.Fatal("put together", a, b)
			}
		}
	}
}

func TestShifts(t *testing.T) {
	for _, a := range naturals() {
		for _, n := range []int{0, 1, 5, 31, 32, 33, 64, 95, 500} {
			same(t, "left", Shl(a, n), new(big.Int).Lsh(toBig(a), uint(n)))
			same(t, "right", Shr(a, n), new(big.Int).Rsh(toBig(a), uint(n)))
			if !slices.Equal(Shr(Shl(a, n), n), a) || !slices.Equal(Shl(Shl(a, n), 7), Shl(a, n+7)) || !slices.Equal(Shr(Shr(a, n), 7), Shr(a, n+7)) {
				t.Fatal(a, n)
			}
		}
	}
	if top := Shl([]uint32{1}, 1<<21-1); len(top) != 65536 || !slices.Equal(Shr(top, 1<<21-1), []uint32{1}) || len(Shr(top, 1<<21)) != 0 || len(Shl(nil, 1<<21)) != 0 {
		t.Fatal("the greatest shifts")
	}
}

func TestNothingHandedInIsChanged(t *testing.T) {
	a, b := []uint32{full, full, 3}, []uint32{1, 5}
	Add(a, b)
	Sub(a, b)
	Shl(a, 3)
	Shr(a, 3)
	if !slices.Equal(a, []uint32{full, full, 3}) || !slices.Equal(b, []uint32{1, 5}) {
		t.Fatal(a, b)
	}
}

func BenchmarkAdd(b *testing.B) {
	x, y := make([]uint32, 1000), make([]uint32, 1000)
	for i := range x {
		x[i], y[i] = full, full
	}
	for b.Loop() {
		Add(x, y)
	}
}
