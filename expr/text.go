package expr

import (
	"strconv"
	"strings"

	"ziggurat/api"
	"ziggurat/integer"
	"ziggurat/rat"
)

// writer writes the text of an expression from its first node on; rest is what is behind it.
type writer struct {
	strings.Builder
	rest []api.Node
}

// Text is the text of e.
func Text(e []api.Node) string {
	w := writer{rest: e}
	w.write()
	return w.String()
}

// put writes texts; an empty one stands for the next part.
func (w *writer) put(l ...string) {
	for _, s := range l {
		if s == "" {
			w.write()
		} else {
			w.WriteString(s)
		}
	}
}

// function is the word of one.
func function(n int) string {
	for s, f := range words() {
		if f == n {
			return s
		}
	}
	return ""
}

// numbers are whole numbers with commas between.
func numbers(l []api.Int) string {
	var texts []string
	for _, n := range l {
		texts = append(texts, integer.Text(n))
	}
	return strings.Join(texts, ", ")
}

// write writes the next expression.
func (w *writer) write() {
	x := w.rest[0]
	w.rest = w.rest[1:]
	n := strconv.Itoa(x.N)
	switch x.Op {
	case api.Num:
		if len(x.Q.Den) == 1 && x.Q.Den[0] == 1 && !x.Q.Num.Neg {
			w.put(integer.Text(x.Q.Num))
		} else {
			w.put("[", rat.Text(x.Q), "]")
		}
	case api.Var:
		w.put(x.Name)
	case api.Pi:
		w.put("pi")
	case api.Neg:
		w.put("(-", "", ")")
	case api.Add, api.Sub, api.Mul, api.Div:
		w.put("(", "", " "+"+-*/"[x.Op-api.Add:x.Op-api.Add+1]+" ", "", ")")
	case api.Pow:
		w.put("(", "", "^", n, ")")
	case api.Root:
		if x.N == 2 {
			w.put("sqrt(", "", ")")
		} else {
			w.put("root(", n, ", ", "", ")")
		}
	case api.RootOf:
		w.put("rootof(", n, "; ", numbers(x.P), ")")
	case api.Func:
		w.put(function(x.N), "(", "", ")")
	case api.Let:
		w.put("(let ", x.Name, " = ", "", " in ", "", ")")
	case api.If:
		w.put("(if ", "", [3]string{" < ", " <= ", " = "}[x.N], "", " then ", "", " else ", "", ")")
	case api.Sum:
		w.put("sum(", x.Name, ", ", numbers(x.P), "; ", "", ")")
	case api.Prod:
		w.put("prod(", x.Name, ", ", numbers(x.P), "; ", "", ")")
	}
}
