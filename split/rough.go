package split

import (
	"ziggurat/api"
	"ziggurat/integer"
	"ziggurat/nat"
)

// Bits that are kept of a rough number, and of these those that are right for certain: each of at most some 100000 steps loses less than two units.
const (
	kept  = 192
	right = 128
)

// rough is about man times 2^exp; man is above 0.
type rough struct {
	man api.Int
	exp int
}

// cut is man times 2^exp, of which the leading bits are kept.
func cut(man api.Int, exp int) rough {
	over := max(nat.Bits(man.Mag)-kept, 0)
	return rough{integer.Shift(man, -over), exp + over}
}

// times is the product.
func (a rough) times(b rough) rough {
	return cut(integer.Mul(a.man, b.man), a.exp+b.exp)
}

// over is the quotient.
func (a rough) over(b rough) rough {
	up := kept + nat.Bits(b.man.Mag)
	q, _, _ := integer.DivMod(integer.Shift(a.man, up), b.man)
	return cut(q, a.exp-b.exp-up)
}

// pow is the power of n, which is above 0.
func (a rough) pow(n int) rough {
	if n == 1 {
		return a
	}
	z := a.times(a).pow(n / 2)
	if n%2 == 1 {
		z = z.times(a)
	}
	return z
}

// size is the least n of which it is not above 2^n, if sure tells that it is so.
func (a rough) size() int { return nat.Bits(a.man.Mag) + a.exp }

// sure tells whether it is so far from 2^-m that it is on the same side as the number that it stands for.
func (a rough) sure(m int) bool {
	if e := a.size(); e < -m || e > 1-m {
		return true
	}
	// It is about 2^-m: what it differs by must be more than the bits that are not right.
	exp := min(a.exp, -m) - kept
	off := integer.Sub(integer.Shift(a.man, a.exp-exp), integer.Shift(integer.Of(1), -m-exp))
	return nat.Bits(off.Mag) > -m-exp-right
}

// rough is about the rest behind term n of x, which is not 0.
func (s series) rough(x api.Rat, n int) rough {
	e := s.power(n)
	z := cut(integer.Make(false, x.Num.Mag), 0).over(cut(integer.Make(false, x.Den), 0)).pow(e)
	z = z.times(cut(integer.Of(s.times), 0))
	under := cut(integer.Of(int64(e)), 0)
	for i := 1; s.factorial && i < e; i++ {
		under = under.times(cut(integer.Of(int64(i)), 0))
	}
	return z.over(under)
}
