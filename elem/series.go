package elem

import (
	"math/bits"

	"ziggurat/api"
	"ziggurat/integer"
	"ziggurat/split"
)

// firstBits are the bits of the first part that an argument is cut into; each further one has as many as all ahead of it.
const firstBits = 16

// Up to how many bits Log is summed at once, and Atan is but guessed.
const (
	shortest = 40
	roughest = 16
)

// sum is the sum of the products of p[j] over q[j], at w; what is behind the last one is not above 2^-w.
func sum(p, q []api.Int, w int) near {
	_, under, top := split.Split(p, q)
	mid, _, _ := integer.DivMod(integer.Shift(top, w), under)
	return near{mid, of(3), w}
}

// enough is how many terms of x^k / k!, of a size of x that is not above 2^-s, leave less than 2^-w, all together.
func enough(s, w int) int {
	n, gone := 1, 0
	for ; gone < w+2; n++ {
		gone += s + bits.Len(uint(n)) - 1
	}
	return n
}

// arc is Atan of 1 over q, or, with a sign of 1, that of atanh; q is 4 at least.
func arc(q int64, sign int64, w int) near {
	n := w/(2*(bits.Len64(uint64(q))-1)) + 2
	p, under := make([]api.Int, n), make([]api.Int, n)
	p[0], under[0] = of(1), of(q)
	for k := int64(1); k < int64(n); k++ {
		p[k], under[k] = of(sign*(2*k-1)), of(q*q*(2*k+1))
	}
	return sum(p, under, w)
}

// pi is a sum of arcs (Størmer).
func pi(w int) near {
	a := arc(57, -1, w).by(of(176)).plus(arc(239, -1, w).by(of(28)))
	return a.minus(arc(682, -1, w).by(of(48))).plus(arc(12943, -1, w).by(of(96)))
}

// two is the logarithm of 2.
func two(w int) near {
	return arc(26, 1, w).by(of(18)).minus(arc(4801, 1, w).by(of(2))).plus(arc(8749, 1, w).by(of(8)))
}

// parts tells x over 2^w, which is below 1 in size, as a sum of numbers a over 2^e; of each s is known so that it is not above 2^-s in size.
func parts(x api.Int, w int, each func(a api.Int, e, s int)) {
	neg, left := x.Neg, size(x)
	e, s := min(firstBits, w), 0
	for integer.Sign(left) != 0 {
		a := integer.Shift(left, e-w)
		if integer.Sign(a) != 0 {
			each(integer.Make(neg, a.Mag), e, s)
		}
		left = integer.Sub(left, integer.Shift(a, w-e))
		e, s = min(2*e, w), e
	}
}

// expOf is Exp of x, which is below 1 in size.
func expOf(x near) near {
	z := whole(of(1), x.w)
	parts(x.mid, x.w, func(a api.Int, e, s int) {
		n := enough(s, x.w)
		p, q := make([]api.Int, n), make([]api.Int, n)
		for k := range n {
			p[k], q[k] = a, integer.Shift(of(int64(k)+1), e)
		}
		z = z.times(sum(p, q, x.w).plus(whole(of(1), x.w)))
	})
	// Exp of at most off more or less is 1, and at most twice as much away from it.
	return z.times(near{integer.Shift(of(1), x.w), integer.Shift(x.off, 1), x.w})
}

// turn is Sin and Cos of one number.
type turn struct{ sin, cos near }

// after is that of the sum of both numbers.
func (a turn) after(b turn) turn {
	return turn{
		a.sin.times(b.cos).plus(a.cos.times(b.sin)),
		a.cos.times(b.cos).minus(a.sin.times(b.sin)),
	}
}

// turnOf is that of x, which is below 1 in size.
func turnOf(x near) turn {
	one := whole(of(1), x.w)
	z := turn{whole(api.Int{}, x.w), one}
	parts(x.mid, x.w, func(a api.Int, e, s int) {
		n := enough(s, x.w)/2 + 1
		square := integer.Neg(integer.Mul(a, a))
		p, q := make([]api.Int, n), make([]api.Int, n)
		p[0], q[0] = a, integer.Shift(of(1), e)
		for k := 1; k < n; k++ {
			p[k], q[k] = square, integer.Shift(of(int64(2*k)*int64(2*k+1)), 2*e)
		}
		sin := sum(p, q, x.w)
		for k := range n {
			p[k], q[k] = square, integer.Shift(of(int64(2*k+1)*int64(2*k+2)), 2*e)
		}
		z = z.after(turn{sin, sum(p, q, x.w).plus(one)})
	})
	return turn{z.sin.wider(x.off), z.cos.wider(x.off)}
}

// fifth is x to the power of 5, in size, rounded up, at w.
func fifth(x near) api.Int {
	m := near{x.most(), api.Int{}, x.w}
	square := m.times(m)
	return square.times(square).times(m).high()
}

// logOf is Log of m, which is above 1/2 and below 2. What is guessed for it needs not be right: how far it is off is reckoned.
func logOf(m near) near {
	w := m.w
	guess := whole(api.Int{}, w)
	if w > shortest {
		short := logOf(near{integer.Shift(m.mid, w/4+8-w), of(1), w/4 + 8})
		guess = near{integer.Shift(short.mid, w-short.w), api.Int{}, w}
	}
	one := whole(of(1), w)
	back := m.times(expOf(near{integer.Neg(guess.mid), api.Int{}, w}))
	// 2 atanh of u is the logarithm of what is left; without a guess u is below 1/3, and more terms are taken.
	u, _ := back.minus(one).over(back.plus(one))
	square := u.times(u)
	left, term := u, u
	n := int64(3)
	for ; w <= shortest && n < 40; n += 2 {
		term = term.times(square)
		left = left.plus(term.part(n))
	}
	if w > shortest {
		left = left.plus(square.times(u).part(3)).wider(fifth(u))
	} else {
		left = left.wider(of(2))
	}
	return guess.plus(left.shifted(1))
}

// atanOf is Atan of x, which is not above 1 in size.
func atanOf(x near) near {
	w := x.w
	if w <= roughest {
		return rough(x)
	}
	short := atanOf(near{integer.Shift(x.mid, w/4+8-w), of(1), w/4 + 8})
	guess := near{integer.Shift(short.mid, w-short.w), api.Int{}, w}
	z := turnOf(guess)
	// The tangent of what is left; both quotients of it are far from 0.
	t, _ := x.times(z.cos).minus(z.sin).over(z.cos.plus(x.times(z.sin)))
	cube := t.times(t).times(t)
	return guess.plus(t.minus(cube.part(3))).wider(fifth(t))
}

// rough is about Atan of x, less than 1/64 away from it: it is but a guess to begin with.
func rough(x near) near {
	w := x.w
	one := integer.Shift(of(1), w)
	// x (pi/4 + 0.273 (1 - x)), of x from 0 to 1.
	slope := integer.Add(integer.Mul(one, of(785)), integer.Mul(integer.Sub(one, size(x.mid)), of(273)))
	mid, _, _ := integer.DivMod(integer.Shift(integer.Mul(x.mid, slope), -w), of(1000))
	return near{mid, integer.Shift(one, -6), w}
}
