package elem

import (
	"ziggurat/api"
	"ziggurat/integer"
	"ziggurat/rat"
)

// near is a number that lies, times 2^w, between mid less off and mid and off.
type near struct {
	mid, off api.Int
	w        int
}

// of is n.
func of(n int64) api.Int { return integer.Of(n) }

// size is a without its sign.
func size(a api.Int) api.Int { return integer.Make(false, a.Mag) }

// up is a over 2^n, rounded up.
func up(a api.Int, n int) api.Int {
	return integer.Neg(integer.Shift(integer.Neg(a), -n))
}

// quotient is q, as near as can be at w.
func quotient(q api.Rat, w int) near {
	return near{rat.Floor(api.Rat{Num: integer.Shift(q.Num, w), Den: q.Den}), of(1), w}
}

// whole is n.
func whole(n api.Int, w int) near { return near{integer.Shift(n, w), api.Int{}, w} }

// low is the whole number below which it does not lie.
func (a near) low() api.Int { return integer.Sub(a.mid, a.off) }

// high is the whole number above which it does not lie.
func (a near) high() api.Int { return integer.Add(a.mid, a.off) }

// most is what it is not above in size.
func (a near) most() api.Int { return integer.Add(size(a.mid), a.off) }

// wider may be by as much more.
func (a near) wider(by api.Int) near {
	return near{a.mid, integer.Add(a.off, by), a.w}
}

// plus is the sum.
func (a near) plus(b near) near {
	return near{integer.Add(a.mid, b.mid), integer.Add(a.off, b.off), a.w}
}

// minus is the difference.
func (a near) minus(b near) near {
	return near{integer.Sub(a.mid, b.mid), integer.Add(a.off, b.off), a.w}
}

// by is it n times.
func (a near) by(n api.Int) near {
	return near{integer.Mul(a.mid, n), integer.Mul(a.off, size(n)), a.w}
}

// shifted is it times 2^n.
func (a near) shifted(n int) near {
	if n >= 0 {
		return near{integer.Shift(a.mid, n), integer.Shift(a.off, n), a.w}
	}
	return near{integer.Shift(a.mid, n), integer.Add(up(a.off, -n), of(1)), a.w}
}

// times is the product.
func (a near) times(b near) near {
	off := integer.Add(integer.Mul(a.most(), b.off), integer.Mul(size(b.mid), a.off))
	return near{integer.Shift(integer.Mul(a.mid, b.mid), -a.w), integer.Add(up(off, a.w), of(1)), a.w}
}

// part is it over n, which is above 0.
func (a near) part(n int64) near {
	mid, _, _ := integer.DivMod(a.mid, of(n))
	off, _, _ := integer.DivMod(a.off, of(n))
	return near{mid, integer.Add(off, of(2)), a.w}
}

// over is the quotient, and yes, if b surely is not 0.
func (a near) over(b near) (near, bool) {
	least := integer.Sub(size(b.mid), b.off)
	if integer.Sign(least) < 1 {
		return near{}, false
	}
	mid, _, _ := integer.DivMod(integer.Shift(a.mid, a.w), b.mid)
	// a and x over b and y is off by x b less a y, over b (b and y).
	top := integer.Add(integer.Mul(a.off, size(b.mid)), integer.Mul(size(a.mid), b.off))
	off, _, _ := integer.DivMod(integer.Shift(top, a.w), integer.Mul(size(b.mid), least))
	return near{mid, integer.Add(off, of(2)), a.w}, true
}

// floor is the greatest whole number that is not above it times 2^n, and yes, if that is sure.
func (a near) floor(n int) (api.Int, bool) {
	lo, hi := integer.Shift(a.low(), n-a.w), integer.Shift(a.high(), n-a.w)
	return lo, integer.Cmp(lo, hi) == 0
}
