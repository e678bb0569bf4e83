package expr

import (
	"ziggurat/api"
	"ziggurat/integer"
	"ziggurat/rat"
)

// meaning is what a name stands for: an expression, where its own names have their meanings, and what came of it, once that was asked for. What no one asks for is not expanded, however long it would be.
type meaning struct {
	name  string
	e     []api.Node
	where *meaning
	came  []api.Node
	outer *meaning
}

// tooLong is what is given up with where there are too many nodes.
type tooLong struct{}

// row is nodes that are told one behind the other.
type row struct{ nodes []api.Node }

// add is l behind them.
func (r *row) add(l ...api.Node) {
	if len(r.nodes)+len(l) > api.MaxNodes {
		panic(tooLong{})
	}
	r.nodes = append(r.nodes, l...)
}

// number is a whole number as a node.
func number(n api.Int) api.Node { return api.Node{Op: api.Num, Q: rat.Whole(n)} }

// worth is what comes of a meaning.
func (m *meaning) worth() []api.Node {
	if m.came == nil {
		var r row
		r.expand(m.e, m.where)
		m.came = r.nodes
	}
	return m.came
}

// expand adds what comes of e.
func (r *row) expand(e []api.Node, names *meaning) {
	x := e[0]
	switch x.Op {
	case api.Var:
		for names.name != x.Name {
			names = names.outer
		}
		r.add(names.worth()...)
	case api.Let:
		p := Parts(e)
		r.expand(p[1], &meaning{name: x.Name, e: p[0], where: names, outer: names})
	case api.Sum:
		r.series(e, names, api.Add, number(api.Int{}))
	case api.Prod:
		r.series(e, names, api.Mul, number(integer.Of(1)))
	default:
		r.add(x)
		for _, p := range parts(e) {
			r.expand(p, names)
		}
	}
}

// series adds what comes of a Sum or a Prod, by an operation, and, if there is nothing, a node.
func (r *row) series(e []api.Node, names *meaning, op int, none api.Node) {
	from, to := e[0].P[0], e[0].P[1]
	more := integer.Sub(to, from)
	if integer.Sign(more) < 0 {
		r.add(none)
		return
	}
	n := low(more)
	if n > api.MaxNodes {
		panic(tooLong{})
	}
	for range n {
		r.add(api.Node{Op: op})
	}
	for range n + 1 {
		here := []api.Node{number(from)}
		r.expand(e[1:], &meaning{name: e[0].Name, came: here, outer: names})
		from = integer.Add(from, integer.Of(1))
	}
}

// Expand is e without names, Lets, Sums and Prods.
func Expand(e []api.Node) (out []api.Node, err api.Errno) {
	if len(Names(e)) > 0 {
		return nil, api.ErrName
	}
	defer func() {
		if x := recover(); x != nil {
			if _, is := x.(tooLong); !is {
				panic(x)
			}
			out, err = nil, api.ErrBig
		}
	}()
	var r row
	r.expand(e, nil)
	return r.nodes, api.OK
}
