package kernel

import (
	"slices"

	"ziggurat/api"
	"ziggurat/expr"
	"ziggurat/integer"
	"ziggurat/rat"
)

// pair is both ends of a span.
type pair = [2]api.Int

// refused is what is given up with, where a proof's spans do not hold.
type refused struct{}

// refuse gives up.
func refuse() { panic(refused{}) }

// must gives up, unless something is so.
func must(is bool) {
	if !is {
		refuse()
	}
}

// holds tells whether the span that the table makes for a node is not below a number, nor above another one.
type holds func(lo, hi api.Int) bool

// inside is holds of a span that is known.
func inside(a pair) holds {
	return func(lo, hi api.Int) bool { return integer.Cmp(lo, a[0]) <= 0 && integer.Cmp(a[1], hi) <= 0 }
}

// rule is what the table makes of the spans of a node's parts; part is the first part's expression.
type rule func(x api.Node, p []pair, part []api.Node) holds

// scale is a width, its unit, and what is reckoned but once in a proof: constants, and spans of functions at a number.
type scale struct {
	w    int
	unit api.Int
	constants
	known map[string]pair
}

// scaleOf is that of a width.
func scaleOf(w int) scale {
	return scale{w, power(w), constants{map[int]within{}, map[int]within{}}, map[string]pair{}}
}

// rules are those of all nodes.
func (s scale) rules() map[int]rule {
	known := func(apply func(x api.Node, p []pair) pair) rule {
		return func(x api.Node, p []pair, part []api.Node) holds { return inside(apply(x, p)) }
	}
	return map[int]rule{
		api.Num: known(func(x api.Node, p []pair) pair { return s.rational(x.Q) }),
		api.Neg: known(func(x api.Node, p []pair) pair { return pair{integer.Neg(p[0][1]), integer.Neg(p[0][0])} }),
		api.Add: known(func(x api.Node, p []pair) pair {
			return pair{integer.Add(p[0][0], p[1][0]), integer.Add(p[0][1], p[1][1])}
		}),
		api.Sub:    known(func(x api.Node, p []pair) pair { return sub(p[0], p[1]) }),
		api.Mul:    known(func(x api.Node, p []pair) pair { return s.mul(p[0], p[1]) }),
		api.Div:    known(func(x api.Node, p []pair) pair { return s.div(p[0], p[1]) }),
		api.Pow:    known(func(x api.Node, p []pair) pair { return s.pow(p[0], x.N) }),
		api.Root:   s.root,
		api.RootOf: s.rootOf,
		api.Func:   s.function,
		api.Pi: known(func(x api.Node, p []pair) pair {
			f := s.floor(s.pi)
			return pair{f, integer.Add(f, of(1))}
		}),
	}
}

// rational is the span of q.
func (s scale) rational(q api.Rat) pair {
	z := api.Rat{Num: integer.Mul(q.Num, s.unit), Den: q.Den}
	return pair{rat.Floor(z), rat.Ceil(z)}
}

// sub is the span of a difference.
func sub(a, b pair) pair { return pair{integer.Sub(a[0], b[1]), integer.Sub(a[1], b[0])} }

// ends are the products of an end of the one and one of the other, the least and the greatest first and last.
func ends(a, b pair) []api.Int {
	l := []api.Int{integer.Mul(a[0], b[0]), integer.Mul(a[0], b[1]), integer.Mul(a[1], b[0]), integer.Mul(a[1], b[1])}
	slices.SortFunc(l, integer.Cmp)
	return l
}

// mul is the span of a product.
func (s scale) mul(a, b pair) pair {
	l := ends(a, b)
	return pair{integer.Shift(l[0], -s.w), up(l[3], s.w)}
}

// div is the span of a quotient: 0 must lie beside the second one.
func (s scale) div(a, b pair) pair {
	if integer.Sign(b[1]) < 0 {
		a, b = pair{integer.Neg(a[1]), integer.Neg(a[0])}, pair{integer.Neg(b[1]), integer.Neg(b[0])}
	}
	must(integer.Sign(b[0]) > 0)
	quotient := func(n, d api.Int) (api.Int, api.Int) {
		q, r, _ := integer.DivMod(integer.Shift(n, s.w), d)
		return q, integer.Add(q, of(integer.Sign(r)))
	}
	// What is divided by the lesser one lies farther from 0.
	far := func(n api.Int, neg bool) api.Int {
		if n.Neg == neg {
			return b[0]
		}
		return b[1]
	}
	lo, _ := quotient(a[0], far(a[0], true))
	_, hi := quotient(a[1], far(a[1], false))
	return pair{lo, hi}
}

// pow is the span of a power.
func (s scale) pow(a pair, n int) pair {
	if n < 0 {
		return s.div(pair{s.unit, s.unit}, s.pow(a, -n))
	}
	if n == 0 {
		return pair{s.unit, s.unit}
	}
	x, y, by := integer.Pow(a[0], n), integer.Pow(a[1], n), s.w*(n-1)
	switch {
	case n%2 == 1 || !a[0].Neg:
		return pair{integer.Shift(x, -by), up(y, by)}
	case integer.Sign(a[1]) <= 0:
		return pair{integer.Shift(y, -by), up(x, by)}
	case integer.Cmp(x, y) > 0:
		return pair{{}, up(x, by)}
	}
	return pair{{}, up(y, by)}
}

// notAbove tells whether x to the power of n is not above m times the unit to the power of n less 1; both are 0 or above.
func (s scale) notAbove(x, m api.Int, n int) bool {
	// By bits, as far as they tell it: a number that is far too great is not raised.
	have := length(m.Mag) + s.w*(n-1)
	if (length(x.Mag)-1)*n > have {
		return false
	}
	return integer.Cmp(integer.Pow(x, n), integer.Shift(m, s.w*(n-1))) <= 0
}

// notBelow is the same the other way round.
func (s scale) notBelow(x, m api.Int, n int) bool {
	if (length(x.Mag)-1)*n > length(m.Mag)+s.w*(n-1) {
		return true
	}
	return integer.Cmp(integer.Pow(x, n), integer.Shift(m, s.w*(n-1))) >= 0
}

// reaches tells whether x is not above the real n-th root of m, in the table's scale.
func (s scale) reaches(x, m api.Int, n int) bool {
	switch {
	case m.Neg:
		return x.Neg && s.notBelow(size(x), size(m), n)
	case x.Neg:
		return true
	}
	return s.notAbove(x, m, n)
}

// root is the rule of a root.
func (s scale) root(x api.Node, p []pair, part []api.Node) holds {
	must(x.N%2 == 1 || !p[0][0].Neg)
	return func(lo, hi api.Int) bool {
		return s.reaches(lo, p[0][0], x.N) && s.reaches(integer.Neg(hi), integer.Neg(p[0][1]), x.N)
	}
}

// rootOf is the rule of a polynomial's root.
func (s scale) rootOf(x api.Node, p []pair, part []api.Node) holds {
	r, is := located(x.P, x.N)
	must(is)
	return func(lo, hi api.Int) bool { return r.compare(lo, s.w) >= 0 && r.compare(hi, s.w) <= 0 }
}

// good tells whether a span, of which holds tells, is as good as 0 for e.
func (s scale) good(e []api.Node, a holds) bool {
	b, is := apart(e)
	if !is || s.w < b {
		return false
	}
	edge := integer.Sub(power(s.w-b), of(1))
	return a(integer.Neg(edge), edge)
}

// less is e less a rational.
func less(e []api.Node, q api.Rat) []api.Node {
	return append(append([]api.Node{{Op: api.Sub}}, e...), api.Node{Op: api.Num, Q: q})
}

// check goes through a proof's spans.
func check(e []api.Node, p api.Proof) {
	must(expr.Right(e) && p.W >= 1 && p.W <= api.MaxWidth && len(p.Spans) == len(e))
	for _, a := range p.Spans {
		must(integer.Right(a[0]) && integer.Right(a[1]) && integer.Cmp(a[0], a[1]) <= 0)
	}
	s := scaleOf(p.W)
	rules := s.rules()
	// node looks at the expression that begins at a place, and tells where it ends.
	var node func(i int) int
	node = func(i int) int {
		n, may := arity(e[i].Op)
		must(may)
		var parts []pair
		next, second := i+1, i+1
		for k := range n {
			parts = append(parts, p.Spans[next])
			next = node(next)
			if k == 0 {
				second = next
			}
		}
		table := rules[e[i].Op](e[i], parts, e[i+1:second])
		lo, hi := p.Spans[i][0], p.Spans[i][1]
		must(table(lo, hi) || integer.Sign(lo) <= 0 && integer.Sign(hi) >= 0 && s.good(e[i:next], table))
		return next
	}
	node(0)
}
