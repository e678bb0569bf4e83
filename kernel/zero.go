package kernel

import (
	"math/bits"
	"slices"

	"ziggurat/api"
	"ziggurat/integer"
)

// most is what greater numbers of a separation bound are.
const most = 1 << 30

// isReal tells whether e has a function or pi.
func isReal(e []api.Node) bool {
	return slices.ContainsFunc(e, func(x api.Node) bool { return x.Op == api.Func || x.Op == api.Pi })
}

// arity is how many parts a node has that a proof may speak of, and no of others.
func arity(op int) (int, bool) {
	switch op {
	case api.Num, api.RootOf, api.Pi:
		return 0, true
	case api.Neg, api.Pow, api.Root, api.Func:
		return 1, true
	case api.Add, api.Sub, api.Mul, api.Div:
		return 2, true
	}
	return 0, false
}

// length is how many bits a has.
func length(a []uint32) int {
	if len(a) == 0 {
		return 0
	}
	return 32*(len(a)-1) + bits.Len32(a[len(a)-1])
}

// bounds is the degree of an algebraic whole number over another one, and the bits of what their conjugates are at most.
type bounds struct{ d, u, l int }

// sizeOf is that of a node, of its parts'.
func sizeOf(x api.Node, p []bounds) bounds {
	var z bounds
	switch x.Op {
	case api.Num:
		z = bounds{1, length(x.Q.Num.Mag), length(x.Q.Den)}
	case api.Neg:
		z = p[0]
	case api.Add, api.Sub:
		z = bounds{p[0].d * p[1].d, max(p[0].u+p[1].l, p[0].l+p[1].u) + 1, p[0].l + p[1].l}
	case api.Mul:
		z = bounds{p[0].d * p[1].d, p[0].u + p[1].u, p[0].l + p[1].l}
	case api.Div:
		z = bounds{p[0].d * p[1].d, p[0].u + p[1].l, p[0].l + p[1].u}
	case api.Pow:
		z = bounds{p[0].d, x.N * p[0].u, x.N * p[0].l}
		if x.N < 0 {
			z = bounds{p[0].d, -x.N * p[0].l, -x.N * p[0].u}
		}
	case api.Root:
		z = bounds{p[0].d * x.N, (p[0].u + (x.N-1)*p[0].l + x.N - 1) / x.N, p[0].l}
	case api.RootOf:
		lead := size(x.P[len(x.P)-1])
		greatest := api.Int{}
		for _, c := range x.P[:len(x.P)-1] {
			if integer.Cmp(size(c), greatest) > 0 {
				greatest = size(c)
			}
		}
		z = bounds{len(x.P) - 1, length(integer.Add(lead, greatest).Mag), length(lead.Mag)}
	}
	return bounds{min(z.d, most), min(z.u, most), min(z.l, most)}
}

// apart is a number B, and yes: the value of e, which has no function and no pi, is 0 or in size not below 2^-B.
func apart(e []api.Node) (int, bool) {
	if isReal(e) {
		return 0, false
	}
	var pile []bounds
	for _, x := range slices.Backward(e) {
		n, _ := arity(x.Op)
		parts := slices.Clone(pile[len(pile)-n:])
		slices.Reverse(parts)
		pile = append(pile[:len(pile)-n], sizeOf(x, parts))
	}
	z := pile[0]
	b := (z.d-1)*z.u + z.l
	return b, max(z.d, z.u, z.l, b) < most
}
