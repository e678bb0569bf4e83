package kernel

import (
	"cmp"

	"ziggurat/api"
	"ziggurat/integer"
	"ziggurat/rat"
)

// digits is how many digits more than the width are reckoned with at first.
const digits = 32

// floor is a value that is not whole, times the unit, floored.
func (s scale) floor(value func(p int) within) api.Int {
	var f api.Int
	goOn(s.w+digits, func(p int) bool {
		v := value(p)
		lo, hi := integer.Shift(v.lo, s.w-v.p), integer.Shift(v.hi, s.w-v.p)
		f = lo
		return integer.Cmp(lo, hi) == 0
	})
	return f
}

// both is the span of a value between two whole numbers, or of one.
func both(f api.Int, exact bool) pair {
	if exact {
		return pair{f, f}
	}
	return pair{f, integer.Add(f, of(1))}
}

// function is the rule of a function.
func (s scale) function(x api.Node, p []pair, part []api.Node) holds {
	a := p[0]
	switch x.N {
	case api.Exp:
		return inside(pair{s.expAt(a[0])[0], s.expAt(a[1])[1]})
	case api.Log:
		return s.log(a, part)
	case api.Atan:
		return s.atan(a)
	case api.Tan:
		return inside(s.div(s.wave(api.Sin, a), s.wave(api.Cos, a)))
	}
	return inside(s.wave(x.N, a))
}

// recalled is the span of a function at a over the unit: what was told of it, or what tell tells now.
func (s scale) recalled(f int, a api.Int, tell func() pair) pair {
	key := integer.Text(of(f)) + " " + integer.Text(a)
	x, is := s.known[key]
	if !is {
		x = tell()
		s.known[key] = x
	}
	return x
}

// expAt is the span of Exp at a over the unit.
func (s scale) expAt(a api.Int) pair {
	must(integer.Cmp(size(a), integer.Shift(s.unit, 12)) <= 0)
	if integer.Sign(a) == 0 {
		return both(s.unit, true)
	}
	return s.recalled(api.Exp, a, func() pair {
		return both(s.floor(func(p int) within {
			z, k := s.exp(a, s.w, p+max(times(a, s.w), 0))
			z.p -= k
			return z
		}), false)
	})
}

// times is about how many bits Exp of a over 2^w has ahead of its point: not fewer.
func times(a api.Int, w int) int {
	n, _ := number(integer.Shift(a, -w))
	return 3*n/2 + 2
}

// wave is the span of Sin or Cos.
func (s scale) wave(f int, a pair) pair {
	m := integer.Shift(integer.Add(a[0], a[1]), -1)
	r := integer.Sub(a[1], m)
	must(integer.Cmp(size(m), integer.Shift(s.unit, 64)) <= 0)
	var mid pair
	switch {
	case integer.Sign(m) == 0 && f == api.Cos:
		mid = both(s.unit, true)
	case integer.Sign(m) != 0:
		mid = s.recalled(f, m, func() pair {
			return both(s.floor(func(p int) within {
				z := s.turned(m, s.w, p)
				if f == api.Sin {
					return z.sin
				}
				return z.cos
			}), false)
		})
	}
	lo, hi := integer.Sub(mid[0], r), integer.Add(mid[1], r)
	if least := integer.Neg(s.unit); integer.Cmp(lo, least) < 0 {
		lo = least
	}
	if integer.Cmp(hi, s.unit) > 0 {
		hi = s.unit
	}
	return pair{lo, hi}
}

// log is the rule of a logarithm: a number is not above it, if Exp of that is not above the argument.
func (s scale) log(a pair, part []api.Node) holds {
	must(integer.Sign(a[0]) > 0)
	one := rat.Whole(of(1))
	if s.good(less(part, one), inside(sub(a, pair{s.unit, s.unit}))) {
		return inside(pair{})
	}
	return func(lo, hi api.Int) bool { return s.compareLog(lo, a[0]) <= 0 && s.compareLog(hi, a[1]) >= 0 }
}

// compareLog is -1, 0 or 1, as x over the unit is below the logarithm of m over the unit, alike, or above.
func (s scale) compareLog(x, m api.Int) int {
	switch {
	case integer.Sign(x) == 0:
		return integer.Cmp(s.unit, m)
	case integer.Cmp(x, integer.Mul(s.unit, of(length(m.Mag)+1))) >= 0:
		return 1
	case integer.Cmp(x, integer.Neg(integer.Mul(s.unit, of(s.w+1)))) <= 0:
		return -1
	}
	order := 0
	goOn(s.w+digits, func(p int) bool {
		z, k := s.exp(x, s.w, p)
		// z, times 2^(k - p), against m, times 2^-w: both times a power of 2 are whole.
		by := k - z.p + s.w
		lo, hi, n := integer.Shift(z.lo, max(by, 0)), integer.Shift(z.hi, max(by, 0)), integer.Shift(m, max(-by, 0))
		switch {
		case integer.Cmp(hi, n) < 0:
			order = -1
		case integer.Cmp(lo, n) > 0:
			order = 1
		}
		return order != 0
	})
	return order
}

// atan is the rule of Atan: a number between two quarter turns is not above it, if its tangent is not above the argument.
func (s scale) atan(a pair) holds {
	return func(lo, hi api.Int) bool { return s.compareAtan(lo, a[0]) <= 0 && s.compareAtan(hi, a[1]) >= 0 }
}

// compareAtan is -1, 0 or 1, as x over the unit is below Atan of m over the unit, alike, or above.
func (s scale) compareAtan(x, m api.Int) int {
	switch {
	case integer.Sign(x) == 0 || integer.Sign(m) == 0 || x.Neg != m.Neg:
		return cmp.Compare(integer.Sign(x), integer.Sign(m))
	case integer.Cmp(size(x), integer.Shift(s.unit, 1)) >= 0:
		return integer.Sign(x)
	}
	order := 0
	goOn(s.w+digits, func(p int) bool {
		z := s.turned(size(x), s.w, p+max(length(m.Mag)-s.w, 0))
		// Of less than two the cosine is below 0 just beyond a quarter turn; else sines are held against cosines times m.
		lo, hi := integer.Shift(z.sin.lo, s.w), integer.Shift(z.sin.hi, s.w)
		switch {
		case integer.Sign(z.cos.hi) < 0:
			order = 1
		case integer.Sign(z.cos.lo) <= 0:
		case integer.Cmp(lo, integer.Mul(size(m), z.cos.hi)) > 0:
			order = 1
		case integer.Cmp(hi, integer.Mul(size(m), z.cos.lo)) < 0:
			order = -1
		}
		return order != 0
	})
	return order * integer.Sign(x)
}
