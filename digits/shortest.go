package digits

import (
	"ziggurat/api"
	"ziggurat/format"
	"ziggurat/integer"
	"ziggurat/nat"
	"ziggurat/rat"
)

// near is all that NearEven rounds to a float above 0: from lo, if withLo is set, or right of it, to hi likewise; value is the float's.
type near struct {
	value, lo, hi  api.Rat
	withLo, withHi bool
}

// half is half of the sum.
func half(a, b api.Rat) api.Rat {
	return rat.Mul(rat.Add(a, b), api.Rat{Num: integer.Of(1), Den: []uint32{2}})
}

// around is what is rounded to x, which is finite and above 0.
func around(x api.Float, f api.Form) near {
	v, _ := format.Value(f, x)
	below, _ := format.Value(f, format.Prev(f, x))
	above, is := format.Value(f, format.Next(f, x))
	if !is {
		// Above the greatest float the next one would be, if there were no end.
		above, _ = rat.Pow(rat.Whole(integer.Of(int64(f.Radix))), f.Prec+f.High)
	}
	n := near{value: v, lo: half(below, v), hi: half(v, above)}
	to := func(q api.Rat) bool {
		y, _ := format.Round(q, f, api.NearEven)
		return y.Kind == x.Kind && y.Exp == x.Exp && nat.Cmp(y.Man, x.Man) == 0
	}
	n.withLo, n.withHi = to(n.lo), to(n.hi)
	return n
}

// decade is the n of which q, above 0, is from 10^n to below 10^(n + 1).
func decade(q api.Rat) int {
	n := len(integer.Text(q.Num)) - len(integer.Text(integer.Make(false, q.Den)))
	if rat.Cmp(q, times(integer.Of(1), n)) < 0 {
		n--
	}
	return n
}

// scaled is m times 10^k.
type scaled struct {
	m []uint32
	k int
}

// value is what it is worth.
func (s scaled) value() api.Rat { return times(integer.Make(false, s.m), s.k) }

// over is q over 10^k.
func over(q api.Rat, k int) api.Rat { return rat.Mul(q, times(integer.Of(1), -k)) }

// between are the least and the greatest natural of d digits that lie in n, times 10^k, and whether there are such.
func (n near) between(d, k int) (api.Int, api.Int, bool) {
	lo, hi := over(n.lo, k), over(n.hi, k)
	least, greatest := rat.Ceil(lo), rat.Floor(hi)
	one := integer.Of(1)
	if !n.withLo && rat.Cmp(rat.Whole(least), lo) == 0 {
		least = integer.Add(least, one)
	}
	if !n.withHi && rat.Cmp(rat.Whole(greatest), hi) == 0 {
		greatest = integer.Sub(greatest, one)
	}
	if first := integer.Make(false, ten(d-1)); integer.Cmp(least, first) < 0 {
		least = first
	}
	if last := integer.Sub(integer.Make(false, ten(d)), one); integer.Cmp(greatest, last) > 0 {
		greatest = last
	}
	return least, greatest, integer.Cmp(least, greatest) <= 0
}

// exponents are those of which d digits can lie in n.
func (n near) exponents(d int) (int, int) {
	return decade(n.lo) - d + 1, decade(n.hi) - d + 1
}

// may tells whether d digits are enough.
func (n near) may(d int) bool {
	from, to := n.exponents(d)
	for k := from; k <= to; k++ {
		if _, _, is := n.between(d, k); is {
			return true
		}
	}
	return false
}

// fewest is how many digits are enough: as many more are, too.
func (n near) fewest() int {
	few, enough := 0, 1
	for !n.may(enough) {
		few, enough = enough, 2*enough
	}
	for enough-few > 1 {
		if mid := (few + enough) / 2; n.may(mid) {
			enough = mid
		} else {
			few = mid
		}
	}
	return enough
}

// off is how far q is from the float.
func (n near) off(q api.Rat) api.Rat {
	d := rat.Sub(q, n.value)
	return api.Rat{Num: integer.Make(false, d.Num.Mag), Den: d.Den}
}

// better tells whether a is nearer to the float than b, or as near, and an even multiple of 10 to the power of the lesser exponent.
func (n near) better(a, b scaled) bool {
	x, y := a.value(), b.value()
	if c := rat.Cmp(n.off(x), n.off(y)); c != 0 {
		return c < 0
	}
	m := over(x, min(a.k, b.k)).Num
	return nat.Bit(m.Mag, 0) == 0
}

// shortest is the decimal of the fewest digits in n that is nearest to the float.
func shortest(n near) scaled {
	d := n.fewest()
	var best scaled
	from, to := n.exponents(d)
	for k := from; k <= to; k++ {
		least, greatest, is := n.between(d, k)
		if !is {
			continue
		}
		// The whole numbers on both sides of the float, or what there is next to them.
		floor := rat.Floor(over(n.value, k))
		for _, m := range []api.Int{floor, integer.Add(floor, integer.Of(1))} {
			if integer.Cmp(m, least) < 0 {
				m = least
			}
			if integer.Cmp(m, greatest) > 0 {
				m = greatest
			}
			if s := (scaled{m.Mag, k}); best.m == nil || n.better(s, best) {
				best = s
			}
		}
	}
	return best
}
