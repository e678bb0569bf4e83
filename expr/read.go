package expr

import (
	"strings"

	"ziggurat/api"
	"ziggurat/integer"
	"ziggurat/rat"
)

// Kinds of tokens.
const (
	end = iota
	figure
	word
	sign
	wrong // a byte that begins none
)

// token is one, and where it stands.
type token struct {
	kind int
	text string
	at   int
}

// fault is what a text that may not be is given up with.
type fault struct {
	at  int
	err api.Errno
}

// reader reads a text; next is its next token. It is long, once there are too many nodes: then none are kept.
type reader struct {
	text  string
	words map[string]int
	next  token
	long  bool
}

// run is how many bytes from a place on are such.
func run(s string, at int, such func(c byte) bool) int {
	n := 0
	for at+n < len(s) && such(s[at+n]) {
		n++
	}
	return n
}

// scan is the token with which s goes on at a place that is no blank.
func scan(s string, at int) token {
	if at == len(s) {
		return token{end, "", at}
	}
	c, n, kind := s[at], 1, wrong
	switch {
	case digit(c):
		n, kind = run(s, at, digit), figure
		if point := at + n; point < len(s) && s[point] == '.' {
			if more := run(s, point+1, digit); more > 0 {
				n += 1 + more
			}
		}
	case letter(c):
		n, kind = run(s, at, func(c byte) bool { return letter(c) || digit(c) || c == '_' }), word
	case strings.HasPrefix(s[at:], "<="):
		n, kind = 2, sign
	case strings.IndexByte("+-*/^()[],;<=", c) >= 0:
		kind = sign
	}
	return token{kind, s[at : at+n], at}
}

// step goes on to the next token.
func (r *reader) step() token {
	now := r.next
	at := now.at + len(now.text)
	at += run(r.text, at, func(c byte) bool { return c == 32 || c == 9 || c == 10 || c == 13 })
	r.next = scan(r.text, at)
	return now
}

// refuse gives up at the next token.
func (r *reader) refuse() {
	if r.next.kind == end {
		panic(fault{len(r.text), api.ErrEnd})
	}
	panic(fault{r.next.at, api.ErrToken})
}

// is tells whether the next token is a sign, or a word, of that text.
func (r *reader) is(text string) bool {
	return (r.next.kind == sign || r.next.kind == word) && r.next.text == text
}

// take goes on, if the next token is of that text.
func (r *reader) take(text string) bool {
	if !r.is(text) {
		return false
	}
	r.step()
	return true
}

// must goes on behind a token of that text.
func (r *reader) must(text string) {
	if !r.take(text) {
		r.refuse()
	}
}

// join is a node ahead of its parts; of what is too long one node is kept.
func (r *reader) join(x api.Node, parts ...[]api.Node) []api.Node {
	n := 1
	for _, p := range parts {
		n += len(p)
	}
	if r.long = r.long || n > api.MaxNodes; r.long {
		return []api.Node{{Op: api.Pi}}
	}
	out := make([]api.Node, 0, n)
	out = append(out, x)
	for _, p := range parts {
		out = append(out, p...)
	}
	return out
}

// name is a name.
func (r *reader) name() string {
	if _, is := r.words[r.next.text]; is || r.next.kind != word {
		r.refuse()
	}
	return r.step().text
}

// natural is the number of digits.
func (r *reader) natural() api.Int {
	if r.next.kind != figure || strings.Contains(r.next.text, ".") {
		r.refuse()
	}
	n, _, _ := integer.Read(r.step().text)
	return n
}

// whole is a number without a full stop, perhaps with a sign ahead.
func (r *reader) whole() api.Int {
	if r.take("-") {
		return integer.Neg(r.natural())
	}
	return r.natural()
}

// low is a whole number without its sign, or, of one above 32 bits, a number that is too great for anything.
func low(n api.Int) int {
	switch len(n.Mag) {
	case 0:
		return 0
	case 1:
		return int(n.Mag[0])
	}
	return 1 << 40
}

// small is a whole number as one of Go, or one that is too great for anything.
func (r *reader) small() int {
	n := r.whole()
	return low(n) * integer.Sign(n)
}

// expression reads one.
func (r *reader) expression() []api.Node {
	switch {
	case r.take("let"):
		x := api.Node{Op: api.Let, Name: r.name()}
		r.must("=")
		a := r.expression()
		r.must("in")
		return r.join(x, a, r.expression())
	case r.take("if"):
		x := api.Node{Op: api.If}
		a := r.expression()
		x.N = r.relation()
		b := r.expression()
		r.must("then")
		c := r.expression()
		r.must("else")
		return r.join(x, a, b, c, r.expression())
	}
	return r.sum()
}

// relation is the number of one.
func (r *reader) relation() int {
	for i, s := range [3]string{"<", "<=", "="} {
		if r.take(s) {
			return i
		}
	}
	r.refuse()
	return 0
}

// left reads what stands between signs, and takes together what is further left first.
func (r *reader) left(part func() []api.Node, first, second string, op int) []api.Node {
	e := part()
	for {
		switch {
		case r.take(first):
			e = r.join(api.Node{Op: op}, e, part())
		case r.take(second):
			e = r.join(api.Node{Op: op + 1}, e, part())
		default:
			return e
		}
	}
}

// sum reads products.
func (r *reader) sum() []api.Node { return r.left(r.product, "+", "-", api.Add) }

// product reads what signs are ahead of.
func (r *reader) product() []api.Node { return r.left(r.signed, "*", "/", api.Mul) }

// signed reads a power, perhaps with signs ahead.
func (r *reader) signed() []api.Node {
	signs := 0
	for r.take("-") {
		signs++
	}
	e := r.power()
	for range signs {
		e = r.join(api.Node{Op: api.Neg}, e)
	}
	return e
}

// power reads an atom, perhaps with an exponent.
func (r *reader) power() []api.Node {
	e := r.atom()
	if r.take("^") {
		return r.join(api.Node{Op: api.Pow, N: r.small()}, e)
	}
	return e
}

// inner reads an expression, and the bracket behind it.
func (r *reader) inner() []api.Node {
	e := r.expression()
	r.must(")")
	return e
}

// atom reads what no sign parts.
func (r *reader) atom() []api.Node {
	switch {
	case r.next.kind == figure:
		return []api.Node{{Op: api.Num, Q: decimal(r.step().text)}}
	case r.take("["):
		return []api.Node{{Op: api.Num, Q: r.quotient()}}
	case r.take("("):
		return r.inner()
	}
	if _, is := r.words[r.next.text]; is && r.next.kind == word {
		return r.special()
	}
	return []api.Node{{Op: api.Var, Name: r.name()}}
}

// special reads an atom that begins with a word.
func (r *reader) special() []api.Node {
	switch f := r.words[r.next.text]; {
	case f > 0:
		r.step()
		r.must("(")
		return r.join(api.Node{Op: api.Func, N: f}, r.inner())
	case r.take("pi"):
		return []api.Node{{Op: api.Pi}}
	case r.take("sqrt"):
		r.must("(")
		return r.join(api.Node{Op: api.Root, N: 2}, r.inner())
	case r.take("root"):
		r.must("(")
		x := api.Node{Op: api.Root, N: r.small()}
		r.must(",")
		return r.join(x, r.inner())
	case r.take("rootof"):
		return r.rootOf()
	case r.take("sum"):
		return r.series(api.Sum)
	case r.take("prod"):
		return r.series(api.Prod)
	}
	r.refuse()
	return nil
}

// rootOf reads what stands behind that word.
func (r *reader) rootOf() []api.Node {
	r.must("(")
	x := api.Node{Op: api.RootOf, N: r.small()}
	r.must(";")
	x.P = append(x.P, r.whole())
	for r.take(",") {
		x.P = append(x.P, r.whole())
	}
	r.must(")")
	return []api.Node{x}
}

// series reads what stands behind the word of a Sum or a Prod.
func (r *reader) series(op int) []api.Node {
	r.must("(")
	x := api.Node{Op: op, Name: r.name()}
	r.must(",")
	from := r.whole()
	r.must(",")
	x.P = []api.Int{from, r.whole()}
	r.must(";")
	return r.join(x, r.inner())
}

// quotient reads what stands in square brackets, and the one behind it.
func (r *reader) quotient() api.Rat {
	n, d := r.whole(), integer.Of(1)
	if r.take("/") {
		at := r.next.at
		if d = r.natural(); integer.Sign(d) == 0 {
			panic(fault{at, api.ErrToken})
		}
	}
	r.must("]")
	q, _ := rat.Make(n, d)
	return q
}

// decimal is what digits, perhaps with a full stop between, are worth.
func decimal(s string) api.Rat {
	ahead, behind, _ := strings.Cut(s, ".")
	n, _, _ := integer.Read(ahead + behind)
	q, _ := rat.Make(n, integer.Pow(integer.Of(10), len(behind)))
	return q
}

// read reads all of a text.
func read(s string) (e []api.Node, long bool, f fault) {
	defer func() {
		if x := recover(); x != nil {
			given, is := x.(fault)
			if !is {
				panic(x)
			}
			e, f = nil, given
		}
	}()
	r := reader{text: s, words: words()}
	r.step()
	e = r.expression()
	if r.next.kind != end {
		r.refuse()
	}
	return e, r.long, fault{}
}

// Read is the expression of a text; or where it is none.
func Read(s string) ([]api.Node, int, api.Errno) {
	if len(s) > api.MaxText {
		return nil, 0, api.ErrBig
	}
	e, long, f := read(s)
	switch {
	case f.err != api.OK:
		return nil, f.at, f.err
	case long || !Right(e):
		return nil, 0, api.ErrBig
	}
	return e, 0, api.OK
}
