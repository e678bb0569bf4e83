package kernel

import (
	"slices"

	"ziggurat/api"
	"ziggurat/integer"
	"ziggurat/rat"
	"ziggurat/split"
)

// within is a number that lies, times 2^p, between two whole numbers, or is one of them.
type within struct {
	lo, hi api.Int
	p      int
}

// of is n as a whole number.
func of(n int) api.Int { return integer.Of(int64(n)) }

// power is 2^n.
func power(n int) api.Int { return integer.Shift(of(1), n) }

// size is a without its sign.
func size(a api.Int) api.Int { return integer.Make(false, a.Mag) }

// up is a over 2^n, ceiled.
func up(a api.Int, n int) api.Int { return integer.Neg(integer.Shift(integer.Neg(a), -n)) }

// exactly is n over 2^w.
func exactly(n api.Int, w, p int) within {
	return within{integer.Shift(n, p-w), up(n, w-p), p}
}

// plus is the sum.
func (a within) plus(b within) within {
	return within{integer.Add(a.lo, b.lo), integer.Add(a.hi, b.hi), a.p}
}

// minus is the difference.
func (a within) minus(b within) within {
	return within{integer.Sub(a.lo, b.hi), integer.Sub(a.hi, b.lo), a.p}
}

// times is the product.
func (a within) times(b within) within {
	if !a.lo.Neg && !b.lo.Neg {
		return within{integer.Shift(integer.Mul(a.lo, b.lo), -a.p), up(integer.Mul(a.hi, b.hi), a.p), a.p}
	}
	var l []api.Int
	for _, x := range []api.Int{a.lo, a.hi} {
		for _, y := range []api.Int{b.lo, b.hi} {
			l = append(l, integer.Mul(x, y))
		}
	}
	return within{integer.Shift(slices.MinFunc(l, integer.Cmp), -a.p), up(slices.MaxFunc(l, integer.Cmp), a.p), a.p}
}

// by is it n times, of n that is not below 0.
func (a within) by(n api.Int) within {
	return within{integer.Mul(a.lo, n), integer.Mul(a.hi, n), a.p}
}

// part is it over n, which is above 0.
func (a within) part(n int) within {
	lo, _, _ := integer.DivMod(a.lo, of(n))
	hi, _, _ := integer.DivMod(integer.Neg(a.hi), of(n))
	return within{lo, integer.Neg(hi), a.p}
}

// halved is it over 2^n.
func (a within) halved(n int) within {
	return within{integer.Shift(a.lo, -n), up(a.hi, n), a.p}
}

// scaled is it at fewer digits.
func (a within) scaled(p int) within {
	z := a.halved(a.p - p)
	z.p = p
	return z
}

// wider is it and as much more on both sides.
func (a within) wider(by api.Int) within {
	return within{integer.Sub(a.lo, by), integer.Add(a.hi, by), a.p}
}

// arc is the sum of a series of the kind Atan or Log at 1 over q, which is 2 at least.
func arc(kind, q, p int) within {
	n, _ := split.Terms(kind, api.Rat{Num: of(1), Den: of(q).Mag}, p)
	sign := 1
	if kind == api.Atan {
		sign = -1
	}
	a, b := make([]api.Int, n+1), make([]api.Int, n+1)
	a[0], b[0] = of(1), of(q)
	for k := 1; k <= n; k++ {
		a[k], b[k] = of(sign*(2*k-1)), of(q*q*(2*k+1))
	}
	_, under, top := split.Split(a, b)
	f, _, _ := integer.DivMod(integer.Shift(top, p), under)
	// What is behind the last term is not above 2^-p.
	return within{integer.Sub(f, of(1)), integer.Add(f, of(2)), p}
}

// constants are those that were asked for in one proof, by their digits.
type constants struct{ pis, twos map[int]within }

// once is what is kept for p, or what tell tells now.
func once(kept map[int]within, p int, tell func() within) within {
	x, is := kept[p]
	if !is {
		x = tell()
		kept[p] = x
	}
	return x
}

// pi is 16 Atan of 1/5 less 4 of 1/239 (Machin).
func (c constants) pi(p int) within {
	return once(c.pis, p, func() within {
		return arc(api.Atan, 5, p).by(of(16)).minus(arc(api.Atan, 239, p).by(of(4)))
	})
}

// two is the logarithm of 2: twice atanh of 1/3.
func (c constants) two(p int) within {
	return once(c.twos, p, func() within { return arc(api.Log, 3, p).by(of(2)) })
}

// steps is how often an argument is halved ahead of its series: as many times as there are terms then, about.
func steps(p int) int {
	s := 1
	for s*s < p {
		s++
	}
	return s
}

// terms tells y^k / k! for k from 1 on, of y from 0 to 1/2, up to one that is next to nothing; what is behind it is not more in size than it.
func terms(y within, each func(k int, term within)) within {
	term := exactly(of(1), 0, y.p)
	for k := 1; integer.Cmp(term.hi, of(2)) > 0; k++ {
		term = term.times(y).part(k)
		each(k, term)
	}
	return term
}

// fromZero is it, or, where its lower end is below 0 but it is not, from 0 on.
func (a within) fromZero() within {
	if a.lo.Neg {
		a.lo = api.Int{}
	}
	return a
}

// expOf is Exp of r, which is from 0 to 1.
func expOf(r within) within {
	s := steps(r.p)
	sum := exactly(of(1), 0, r.p)
	last := terms(r.fromZero().halved(s), func(k int, term within) { sum = sum.plus(term) })
	sum.hi = integer.Add(sum.hi, last.hi)
	for range s {
		sum = sum.times(sum)
	}
	return sum
}

// turn is Sin and Cos.
type turn struct{ sin, cos within }

// turnOf is that of r, which is from 0 to 2.
func turnOf(r within) turn {
	s := steps(r.p) + 2
	z := turn{exactly(api.Int{}, 0, r.p), exactly(of(1), 0, r.p)}
	last := terms(r.fromZero().halved(s), func(k int, term within) {
		switch k % 4 {
		case 0:
			z.cos = z.cos.plus(term)
		case 1:
			z.sin = z.sin.plus(term)
		case 2:
			z.cos = z.cos.minus(term)
		case 3:
			z.sin = z.sin.minus(term)
		}
	})
	z.sin, z.cos = z.sin.wider(last.hi), z.cos.wider(last.hi)
	for range s {
		z = turn{z.sin.times(z.cos).by(of(2)), z.cos.times(z.cos).minus(z.sin.times(z.sin))}
	}
	return z
}

// inner is how many digits are reckoned with for p that are right: each halving is undone, and costs two.
func inner(p int) int { return p + 3*steps(p) + 64 }

// logarithms is how often the logarithm of 2 is taken away from a over 2^w: at most so often that what is left is not below 0, and so often that it is below 1.
func (c constants) logarithms(a api.Int, w, more int) api.Int {
	l := c.two(more + 64)
	under := l.hi
	if a.Neg {
		under = l.lo
	}
	k, _, _ := integer.DivMod(exactly(a, w, more+64).lo, under)
	return k
}

// exp is a number that Exp of a over 2^w is 2^k times of: the number is from 1 to 2, about.
func (c constants) exp(a api.Int, w, p int) (within, int) {
	more := max(len(a.Mag)*32-w, 0)
	k := c.logarithms(a, w, more)
	p = inner(p)
	r, l := exactly(a, w, p+more), c.two(p+more)
	if k.Neg {
		r = r.plus(l.by(size(k)))
	} else {
		r = r.minus(l.by(k))
	}
	n, _ := number(k)
	return expOf(r.scaled(p)), n
}

// number is a as a number of Go, and no, if it is beyond 2^40.
func number(a api.Int) (int, bool) {
	if integer.Cmp(size(a), power(40)) > 0 {
		return 0, false
	}
	n := 0
	for i, x := range a.Mag {
		n |= int(x) << (32 * i)
	}
	return n * integer.Sign(a), true
}

// turned is Sin and Cos of a over 2^w.
func (c constants) turned(a api.Int, w, p int) turn {
	more := max(len(a.Mag)*32-w, 0)
	p = inner(p)
	quarter := c.pi(p + more).halved(1)
	x := exactly(size(a), w, p+more)
	k, _, _ := integer.DivMod(x.lo, quarter.hi)
	z := turnOf(x.minus(quarter.by(k)).scaled(p))
	zero := exactly(api.Int{}, 0, p)
	_, rest, _ := integer.DivMod(k, of(4))
	n, _ := number(rest)
	for range n {
		z = turn{z.cos, zero.minus(z.sin)}
	}
	if a.Neg {
		z.sin = zero.minus(z.sin)
	}
	return z
}

// goOn asks at more and more digits, until these are enough.
func goOn(p int, enough func(p int) bool) {
	for !enough(p) {
		p *= 2
	}
}

// rational is a over 2^w.
func rational(a api.Int, w int) api.Rat {
	q, _ := rat.Make(a, power(w))
	return q
}
