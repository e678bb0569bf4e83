package radix

import (
	"math/big"
	"math/rand"
	"slices"
	"strings"
	"testing"

	"ziggurat/api"
	"ziggurat/mul"
	"ziggurat/nat"
)

func toBig(a []uint32) *big.Int {
	z := new(big.Int)
	for _, x := range slices.Backward(a) {
		z.Lsh(z, 32).Or(z, big.NewInt(int64(x)))
	}
	return z
}

func naturals(base int) [][]uint32 {
	r := rand.New(rand.NewSource(int64(base)))
	l := [][]uint32{nil, {1}, {1 << 31}, {0, 1}, {1<<32 - 1}, {1<<32 - 1, 1<<32 - 1}}
	for _, n := range []int{1, 5, 31, 33, 300} {
		p := mul.Pow([]uint32{uint32(base)}, n)
		less, _ := nat.Sub(p, []uint32{1})
		l = append(l, p, less)
	}
	for _, n := range []int{3, 15, 16, 17, 33, 70, 200} {
		a := make([]uint32, n)
		for i := range a {
			a[i] = r.Uint32() | 1
		}
		l = append(l, a)
	}
	return l
}

func TestTextAndBack(t *testing.T) {
	for base := 2; base <= 36; base++ {
		for _, a := range naturals(base) {
			s, err := Text(a, base)
			if err != api.OK || s != toBig(a).Text(base) {
				t.Fatal(base, a, s)
			}
			if n, err := Count(a, base); err != api.OK || n != len(s) {
				t.Fatal("Count", base, n, len(s))
			}
			for _, ahead := range []string{"", "0", strings.Repeat("0", 500)} {
				b, at, err := Read(ahead+s, base)
				if err != api.OK || at != 0 || !slices.Equal(a, b) || !nat.Right(b) {
					t.Fatal("Read", base, s)
				}
			}
		}
	}
}

func TestErrors(t *testing.T) {
	for _, base := range []int{-1, 0, 1, 37, 64} {
		s, err := Text([]uint32{1}, base)
		n, err2 := Count([]uint32{1}, base)
		a, at, err3 := Read("?", base)
		if s != "" || err != api.ErrArg || n != 0 || err2 != api.ErrArg || a != nil || at != 0 || err3 != api.ErrArg {
			t.Fatal(base)
		}
	}
	for _, x := range []struct {
		s    string
		base int
		at   int
	}{{"", 10, 0}, {"12a", 10, 2}, {"a", 10, 0}, {"2", 2, 0}, {"Z", 36, 0}, {"1 ", 10, 1}, {"-1", 10, 0}, {"g", 16, 0}, {"1/", 36, 1}, {"1:", 36, 1}, {"1`", 36, 1}, {"1{", 36, 1}, {"1\xff", 36, 1}, {strings.Repeat("0", 1000) + "x", 10, 1000}} {
		if a, at, err := Read(x.s, x.base); a != nil || at != x.at || err != api.ErrDigit {
			t.Fatal(x, at, err)
		}
	}
}

func TestExamples(t *testing.T) {
	if s, _ := Text([]uint32{255}, 16); s != "ff" {
		t.Fatal(s)
	}
	if s, _ := Text([]uint32{0, 1}, 10); s != "4294967296" {
		t.Fatal(s)
	}
	if a, _, _ := Read("00z", 36); !slices.Equal(a, []uint32{35}) {
		t.Fatal(a)
	}
	if s, _ := Text(nil, 7); s != "0" {
		t.Fatal(s)
	}
	if n, _ := Count(nil, 7); n != 1 {
		t.Fatal(n)
	}
}

func TestWorthOrderAndBits(t *testing.T) {
	for _, base := range []int{2, 10, 32, 36} {
		l := naturals(base)
		for i, a := range l {
			b := l[(i+3)%len(l)]
			x, _ := Text(a, base)
			y, _ := Text(b, base)
			both, _, _ := Read(x+y, base)
			if want := nat.Add(mul.Mul(a, mul.Pow([]uint32{uint32(base)}, len(y))), b); !slices.Equal(both, want) {
				t.Fatal("one behind the other", base, x, y)
			}
			order := len(x) - len(y)
			if order == 0 {
				order = strings.Compare(x, y)
			}
			if c := nat.Cmp(a, b); (order > 0) != (c > 0) || (order < 0) != (c < 0) {
				t.Fatal("order", base, x, y)
			}
		}
	}
	a := []uint32{0x89abcdef, 0x1234567}
	if s, _ := Text(a, 16); s != "123456789abcdef" {
		t.Fatal(s)
	}
}

func TestLong(t *testing.T) {
	a := slices.Repeat([]uint32{1<<32 - 1}, 65536)
	for _, base := range []int{10, 32, 3} {
		s, _ := Text(a, base)
		n, _ := Count(a, base)
		b, _, err := Read(s, base)
		if n != len(s) || err != api.OK || !slices.Equal(a, b) {
			t.Fatal(base)
		}
	}
}

func BenchmarkText(b *testing.B) {
	a := slices.Repeat([]uint32{1<<32 - 1}, 20000)
	for b.Loop() {
		Text(a, 10)
	}
}
