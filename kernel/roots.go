package kernel

import (
	"ziggurat/api"
	"ziggurat/integer"
	"ziggurat/poly"
)

// lead is p's last coefficient; p is not 0.
func lead(p []api.Int) api.Int { return p[len(p)-1] }

// even tells whether the power of the lead by which a pseudo-division of a by b multiplies is above 0.
func even(a, b []api.Int) bool {
	return !lead(b).Neg || max(len(a)-len(b)+1, 0)%2 == 0
}

// following is the next polynomial of a chain, with coefficients as small as can be; none, if there is no rest.
func following(a, b []api.Int) []api.Int {
	_, r, _ := poly.Pseudo(a, b)
	if len(r) == 0 {
		return nil
	}
	sign := integer.Of(1)
	if r[len(r)-1].Neg != even(a, b) {
		sign = integer.Of(-1)
	}
	return poly.Scale(poly.Prim(r), sign)
}

// chainOf is p, its derivative, and rests with the other sign, as Sturm has them; p is no constant.
func chainOf(p []api.Int) [][]api.Int {
	l := [][]api.Int{p, poly.Diff(p)}
	for {
		n := len(l)
		r := following(l[n-2], l[n-1])
		if len(r) == 0 {
			return l
		}
		l = append(l, r)
	}
}

// signAt is the sign of p at a over 2^w, of w of 0 or above.
func signAt(p []api.Int, a api.Int, w int) int {
	v := api.Int{}
	for i := len(p) - 1; i >= 0; i-- {
		v = integer.Add(integer.Mul(v, a), integer.Shift(p[i], w*(len(p)-1-i)))
	}
	return integer.Sign(v)
}

// signRight is the sign that p, which is not 0, has right of a over 2^w.
func signRight(p []api.Int, a api.Int, w int) int {
	for {
		if s := signAt(p, a, w); s != 0 {
			return s
		}
		p = poly.Diff(p)
	}
}

// changes is how often signs that are not 0 change.
func changes(signs []int) int {
	n, last := 0, 0
	for _, s := range signs {
		if s != 0 {
			if s == -last {
				n++
			}
			last = s
		}
	}
	return n
}

// changesRight is how often the signs of a chain change right of a over 2^w.
func changesRight(l [][]api.Int, a api.Int, w int) int {
	var signs []int
	for _, p := range l {
		signs = append(signs, signRight(p, a, w))
	}
	return changes(signs)
}

// place is where a root of p lies: above lo over 2^w, and not above one more, and there is no other one; begin is p's sign right of lo. p has no multiple roots.
type place struct {
	p     []api.Int
	lo    api.Int
	w     int
	begin int
}

// located is where p's n-th real root is, from 0 on, and no, if there is none.
func located(p []api.Int, n int) (place, bool) {
	l := chainOf(p)
	free, _ := poly.Div(poly.Prim(p), poly.Prim(l[len(l)-1]))
	// All roots lie within a power of 2 that is above the sum of all coefficients' sizes.
	sum := integer.Of(1)
	for _, c := range p {
		sum = integer.Add(sum, size(c))
	}
	top := length(sum.Mag)
	base := changesRight(l, integer.Neg(power(top)), 0)
	upTo := func(a api.Int, w int) int { return base - changesRight(l, a, w) }
	if n >= upTo(power(top), 0) {
		return place{}, false
	}
	// The span from lo, as wide as 2^-w, has the root; it is halved until it has no other one.
	lo, w := api.Int{}, -top
	if n < upTo(api.Int{}, 0) {
		lo = integer.Of(-1)
	}
	at := func(a api.Int, w int) int {
		if w < 0 {
			return upTo(integer.Shift(a, -w), 0)
		}
		return upTo(a, w)
	}
	for at(lo, w) != n || at(integer.Add(lo, integer.Of(1)), w) != n+1 || w < 0 {
		lo, w = integer.Shift(lo, 1), w+1
		if mid := integer.Add(lo, integer.Of(1)); at(mid, w) <= n {
			lo = mid
		}
	}
	return place{free, lo, w, signRight(free, lo, w)}, true
}

// compare is -1, 0 or 1, as the root is below a over 2^w, alike, or above.
func (r place) compare(a api.Int, w int) int {
	fine := max(w, r.w)
	x, lo := integer.Shift(a, fine-w), integer.Shift(r.lo, fine-r.w)
	switch {
	case integer.Cmp(x, lo) <= 0:
		return 1
	case integer.Cmp(x, integer.Shift(integer.Add(r.lo, integer.Of(1)), fine-r.w)) > 0:
		return -1
	}
	return signAt(r.p, a, w) * r.begin
}
