package span

import (
	"math/bits"
	"strconv"
	"strings"

	"ziggurat/api"
	"ziggurat/elem"
	"ziggurat/integer"
	"ziggurat/isolate"
	"ziggurat/rat"
	"ziggurat/root"
)

// once is what was told for a key, or what tell tells now: a value that stands in an expression many times is reckoned once.
func (s *scale) once(key string, tell func() api.Int) api.Int {
	v, is := s.known[key]
	if !is {
		v = tell()
		s.known[key] = v
	}
	return v
}

// pi is pi at the width, floored.
func (s *scale) pi() api.Int {
	return s.once("pi", func() api.Int { return elem.Pi(s.w) })
}

// rootOf is the span of a polynomial's root.
func (s *scale) rootOf(x api.Node) pair {
	f, err := isolate.Floor(x.P, x.N, s.w)
	if err != api.OK {
		refuse(api.ErrDomain)
	}
	if q, is := isolate.Exact(x.P, x.N); is {
		return s.rational(q)
	}
	return pair{f, integer.Add(f, integer.Of(1))}
}

// under is the n-th root of a times the unit to the power of n less 1, floored, and whether that is all of it; a is not below 0.
func (s *scale) under(a api.Int, n int) (api.Int, bool) {
	m := integer.Shift(a, s.w*(n-1)).Mag
	if n == 2 {
		r, rest := root.Sqrt(m)
		return integer.Make(false, r), len(rest) == 0
	}
	r, _ := root.Root(m, n)
	z := integer.Make(false, r)
	return z, integer.Cmp(integer.Pow(z, n), integer.Make(false, m)) == 0
}

// rootFloor is the real n-th root, floored.
func (s *scale) rootFloor(a api.Int, n int) api.Int {
	if a.Neg {
		return integer.Neg(s.rootCeil(integer.Neg(a), n))
	}
	r, _ := s.under(a, n)
	return r
}

// rootCeil is the real n-th root, ceiled.
func (s *scale) rootCeil(a api.Int, n int) api.Int {
	if a.Neg {
		return integer.Neg(s.rootFloor(integer.Neg(a), n))
	}
	r, all := s.under(a, n)
	if all {
		return r
	}
	return integer.Add(r, integer.Of(1))
}

// root is the span of a root.
func (s *scale) root(a pair, n int) pair {
	switch {
	case n%2 == 0 && integer.Sign(a[1]) < 0:
		refuse(api.ErrDomain)
	case n%2 == 0 && integer.Sign(a[0]) < 0:
		refuse(api.ErrVague)
	}
	return pair{s.rootFloor(a[0], n), s.rootCeil(a[1], n)}
}

// over is a over the unit, in lowest terms.
func (s *scale) over(a api.Int) api.Rat {
	if integer.Sign(a) == 0 {
		return rat.Whole(a)
	}
	n := 0
	for a.Mag[n/32] == 0 {
		n += 32
	}
	n = min(n+bits.TrailingZeros32(a.Mag[n/32]), s.w)
	return api.Rat{Num: integer.Shift(a, -n), Den: integer.Shift(s.unit, -n).Mag}
}

// key is a text of its own for a function at a number.
func key(f int, a api.Int) string {
	var t strings.Builder
	t.WriteString(strconv.Itoa(f * (1 - 2*boolean(a.Neg))))
	for _, x := range a.Mag {
		t.Write([]byte{byte(x), byte(x >> 8), byte(x >> 16), byte(x >> 24)})
	}
	return t.String()
}

// boolean is 1, if b is set.
func boolean(b bool) int {
	if b {
		return 1
	}
	return 0
}

// below is a function's value at a over the unit, floored.
func (s *scale) below(f int, a api.Int) api.Int {
	return s.once(key(f, a), func() api.Int {
		v, err := elem.Floor(f, s.over(a), s.w)
		if err != api.OK {
			refuse(err)
		}
		return v
	})
}

// above is the same, ceiled: what is not rational is not whole.
func (s *scale) above(f int, a api.Int) api.Int {
	v := s.below(f, a)
	if _, is := elem.Exact(f, s.over(a)); is {
		return v
	}
	return integer.Add(v, integer.Of(1))
}

// function is the span of a function's value.
func (s *scale) function(f int, a pair) pair {
	switch f {
	case api.Sin, api.Cos:
		return s.wave(f, a)
	case api.Tan:
		return s.div(s.wave(api.Sin, a), s.wave(api.Cos, a))
	case api.Log:
		if integer.Sign(a[1]) <= 0 {
			refuse(api.ErrDomain)
		}
		if integer.Sign(a[0]) <= 0 {
			refuse(api.ErrVague)
		}
	}
	return pair{s.below(f, a[0]), s.above(f, a[1])}
}

// wave is the span of Sin or Cos: what these tell in the middle, and as much more on both sides as the argument may be away.
func (s *scale) wave(f int, a pair) pair {
	m := integer.Shift(integer.Add(a[0], a[1]), -1)
	r := integer.Sub(a[1], m)
	lo, hi := integer.Sub(s.below(f, m), r), integer.Add(s.above(f, m), r)
	if least := integer.Neg(s.unit); integer.Cmp(lo, least) < 0 {
		lo = least
	}
	if integer.Cmp(hi, s.unit) > 0 {
		hi = s.unit
	}
	return pair{lo, hi}
}
