package isolate

import (
	"ziggurat/api"
	"ziggurat/chain"
	"ziggurat/dyad"
	"ziggurat/integer"
	"ziggurat/poly"
)

// guard is how many bits more than asked a value is reckoned with at first.
const guard = 64

// cell is a part of a span, laid from 0 to 1, that has just one root of g: above a over 2^k, and not above one more.
// begin is the sign of g right of its lower end; root tells that its upper end is the root.
type cell struct {
	g     []api.Int
	a     api.Int
	k     int
	begin int
	root  bool
}

// onto is p, with a span laid from 0 to 1.
func onto(p []api.Int, s api.Span) []api.Int {
	width := dyad.Sub(s.Hi, s.Lo)
	e := min(s.Lo.Exp, width.Exp)
	if e < 0 {
		p = poly.Twist(p, -e)
	} else {
		p = stretch(p, integer.Shift(integer.Of(1), e))
	}
	p = poly.Shift(p, integer.Shift(s.Lo.Man, s.Lo.Exp-e))
	return stretch(p, integer.Shift(width.Man, width.Exp-e))
}

// stretch is p(b x).
func stretch(p []api.Int, b api.Int) []api.Int {
	out, power := make([]api.Int, len(p)), integer.Of(1)
	for i, c := range p {
		out[i] = integer.Mul(c, power)
		power = integer.Mul(power, b)
	}
	return out
}

// whole is the cell that is all of a span, which has just one root of p.
func whole(p []api.Int, s api.Span) cell {
	c := cell{g: onto(chain.Free(p), s)}
	for _, x := range c.g {
		if c.begin == 0 {
			c.begin = integer.Sign(x)
		}
	}
	c.root = c.sign(integer.Of(1), 0) == 0
	return c
}

// near is g's value at x over 2^k, times 2^w, at most as far away as g has coefficients; x is not below 0, nor above 2^k.
func (c cell) near(x api.Int, k, w int) api.Int {
	v := api.Int{}
	for i := len(c.g) - 1; i >= 0; i-- {
		v = integer.Add(integer.Shift(integer.Mul(v, x), -k), integer.Shift(c.g[i], w))
	}
	return v
}

// sure tells whether a value that is so near has its sign for certain.
func (c cell) sure(v api.Int) bool {
	far := integer.Of(int64(len(c.g)))
	return integer.Cmp(integer.Make(false, v.Mag), far) > 0
}

// sign is g's sign at x over 2^k.
func (c cell) sign(x api.Int, k int) int {
	for _, w := range []int{k + guard, 2*k + 4*guard} {
		if v := c.near(x, k, w); c.sure(v) {
			return integer.Sign(v)
		}
	}
	// With as many bits as this nothing is cut.
	return integer.Sign(c.near(x, k, k*len(c.g)))
}

// at is the cell of 2^k that begins at a.
func (c cell) at(a api.Int, k int, root bool) cell {
	c.a, c.k, c.root = a, k, root
	return c
}

// secant is where in the cell a straight line through both ends' values is 0, among 2^m parts.
func (c cell) secant(m int) api.Int {
	w := c.k + m + guard
	left, right := c.near(c.a, c.k, w), c.near(integer.Add(c.a, integer.Of(1)), c.k, w)
	left, right = integer.Make(false, left.Mag), integer.Make(false, right.Mag)
	part, _, err := integer.DivMod(integer.Shift(left, m), integer.Add(left, right))
	last := integer.Sub(integer.Shift(integer.Of(1), m), integer.Of(1))
	if err != api.OK || integer.Cmp(part, last) > 0 {
		return last
	}
	return part
}

// try is the part of 2^m in which the root is likely, and yes, if it is there.
func (c cell) try(m int) (cell, bool) {
	k := c.k + m
	a := integer.Add(integer.Shift(c.a, m), c.secant(m))
	left, right := c.sign(a, k), c.sign(integer.Add(a, integer.Of(1)), k)
	if left == 0 && integer.Cmp(a, integer.Shift(c.a, m)) > 0 {
		return c.at(integer.Sub(a, integer.Of(1)), k, true), true
	}
	// At the cell's own beginning there may be another root, which does not count.
	starts := left == c.begin || integer.Cmp(a, integer.Shift(c.a, m)) == 0
	return c.at(a, k, right == 0), starts && right != c.begin
}

// half is the half that has the root.
func (c cell) half() cell {
	k, a := c.k+1, integer.Shift(c.a, 1)
	next := integer.Add(a, integer.Of(1))
	if s := c.sign(next, k); s != c.begin {
		return c.at(a, k, s == 0)
	}
	return c.at(next, k, c.root)
}

// exact is the cell of 2^k, if its upper end is the root.
func (c cell) exact(k int) cell {
	top := integer.Shift(integer.Add(c.a, integer.Of(1)), k-c.k)
	return c.at(integer.Sub(top, integer.Of(1)), k, true)
}

// narrow is the cell of 2^k that has the root: steps are squared as long as they go well, and a half is taken where they do not.
func (c cell) narrow(k int) cell {
	m := 1
	for c.k < k && !c.root {
		m = min(m, k-c.k)
		if m > 1 {
			if next, well := c.try(m); well {
				c, m = next, 2*m
				continue
			}
			m /= 2
			continue
		}
		c = c.half()
		m = 2
	}
	if c.root {
		return c.exact(k)
	}
	return c
}
