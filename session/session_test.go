package session

import (
	"bytes"
	"reflect"
	"slices"
	"strings"
	"testing"

	"ziggurat/api"
	"ziggurat/expr"
	"ziggurat/kernel"
	"ziggurat/nat"
	"ziggurat/rounded"
	"ziggurat/store"
)

func define(name, text string) api.Act { return api.Act{Kind: api.Define, Name: name, Text: text} }
func sign(text string, most int) api.Act {
	return api.Act{Kind: api.Sign, Text: text, Most: most}
}

var (
	five   = api.Form{Radix: 2, Prec: 5, Low: -20, High: 20}
	second = api.Form{Radix: 10, Prec: 7, Low: -20, High: 20}
)

// run does acts in a state, none of which may fail.
func run(t *testing.T, s api.State, l ...api.Act) api.State {
	t.Helper()
	for _, a := range l {
		next, done := Do(s, a)
		if done.Err != api.OK {
			t.Fatal(a, done)
		}
		s = next
	}
	return s
}

func TestDefine(t *testing.T) {
	s := run(t, New(), define("a", "sqrt(2)"), define("b", " a * a + 1"), define("a", "b - 1"), define("c", "sum(i, 1, 2; i * a)"))
	want := []api.Entry{{Name: "a", Text: "(((sqrt(2) * sqrt(2)) + 1) - 1)"}, {Name: "b", Text: "((sqrt(2) * sqrt(2)) + 1)"}, {Name: "c", Text: "((1 * (((sqrt(2) * sqrt(2)) + 1) - 1)) + (2 * (((sqrt(2) * sqrt(2)) + 1) - 1)))"}}
	if !reflect.DeepEqual(s.Names, want) {
		t.Fatal(s.Names)
	}
	entries, n, err := store.Read(s.Log)
	if err != api.OK || n != len(s.Log) || !reflect.DeepEqual(entries, []api.Entry{{Name: "a", Text: "sqrt(2)"}, {Name: "b", Text: " a * a + 1"}, {Name: "a", Text: "b - 1"}, {Name: "c", Text: "sum(i, 1, 2; i * a)"}}) {
		t.Fatal(entries, err)
	}
	if next, done := Do(s, define("d", "1")); !reflect.DeepEqual(done, api.Done{}) || len(next.Names) != 4 || len(s.Names) != 3 {
		t.Fatal(done)
	}
}

func TestErrors(t *testing.T) {
	s := run(t, New(), define("a", "sqrt(2)"), define("i", "7"), define("long", "sum(n, 1, 900; n)"))
	for _, x := range []struct {
		a    api.Act
		want api.Done
	}{
		{api.Act{}, api.Done{Err: api.ErrAct}}, {api.Act{Kind: 6, Text: "1 +"}, api.Done{Err: api.ErrAct}}, {api.Act{Kind: -1}, api.Done{Err: api.ErrAct}},
		{define("pi", "1 +"), api.Done{Err: api.ErrArg}}, {define("", "1"), api.Done{Err: api.ErrArg}}, {define("1a", "1"), api.Done{Err: api.ErrArg}}, {define(strings.Repeat("n", 21), "1"), api.Done{Err: api.ErrArg}}, {define("b", "1 +"), api.Done{Err: api.ErrEnd, At: 3}}, {define("b", "1 + $"), api.Done{Err: api.ErrToken, At: 4}}, {define("b", "c + 1"), api.Done{Err: api.ErrName}}, {define("b", "b"), api.Done{Err: api.ErrName}}, {define("b", "x^65"), api.Done{Err: api.ErrBig}}, {define("b", "long + long"), api.Done{Err: api.ErrBig}}, {define("b", "sum(n, 1, 2000; n)"), api.Done{Err: api.ErrBig}},
		{define("b", "sum(n, 1, 600; 1.00000000000000000000000000000001)"), api.Done{Err: api.ErrBig}},
		{sign("1 +", 64), api.Done{Err: api.ErrEnd, At: 3}}, {sign("b", 64), api.Done{Err: api.ErrName}}, {sign("1/0", 64), api.Done{Err: api.ErrDomain}}, {sign("a*a-2", 31), api.Done{Err: api.ErrBudget}}, {sign("exp(log(2))-2", 4096), api.Done{Err: api.ErrBudget}},
		{api.Act{Kind: api.Round, Text: "1 +"}, api.Done{Err: api.ErrArg}}, {api.Act{Kind: api.Round, Text: "1 +", Form: five, Dir: 5}, api.Done{Err: api.ErrArg}}, {api.Act{Kind: api.Round, Text: "1 +", Form: five}, api.Done{Err: api.ErrEnd, At: 3}}, {api.Act{Kind: api.Round, Text: "sqrt(-a)", Form: five, Most: 64}, api.Done{Err: api.ErrDomain}}, {api.Act{Kind: api.Round, Text: "a", Form: five}, api.Done{Err: api.ErrBudget}},
		{api.Act{Kind: api.Digits, Text: "x +", N: -1}, api.Done{Err: api.ErrEnd, At: 3}}, {api.Act{Kind: api.Digits, Text: "a", N: -1}, api.Done{Err: api.ErrArg}}, {api.Act{Kind: api.Digits, Text: "a", N: 4}, api.Done{Err: api.ErrBudget}}, {api.Act{Kind: api.Digits, Text: "log(0)", N: 4, Most: 64}, api.Done{Err: api.ErrDomain}},
		{api.Act{Kind: api.Roots, Text: "rootof(0; 1"}, api.Done{Err: api.ErrEnd, At: 11}}, {api.Act{Kind: api.Roots, Text: "1"}, api.Done{Err: api.ErrArg}}, {api.Act{Kind: api.Roots, Text: "rootof(0;-2,0,1)+1"}, api.Done{Err: api.ErrArg}}, {api.Act{Kind: api.Roots, Text: "-rootof(0;-2,0,1)"}, api.Done{Err: api.ErrArg}}, {api.Act{Kind: api.Roots, Text: "rootof(0;0)"}, api.Done{Err: api.ErrBig}},
	} {
		next, done := Do(s, x.a)
		if !reflect.DeepEqual(done, x.want) || !reflect.DeepEqual(next, s) {
			t.Fatal(x.a, done, x.want)
		}
	}
}

func TestAnswers(t *testing.T) {
	s := run(t, New(), define("a", "sqrt(2)"))
	for _, x := range []struct {
		a    api.Act
		text string
		w    int
		has  bool
	}{
		{sign("a * a - 2", 64), "0", 32, true}, {sign("a - [3/2]", 64), "-1", 32, true}, {sign("if a < 2 then 1 else pi - pi", 64), "1", 32, false}, {sign("sum(i, 1, 3; i) - pi", 64), "1", 32, true},
		{api.Act{Kind: api.Round, Text: "a", Form: five, Most: 64}, "144e-2", 32, true}, {api.Act{Kind: api.Round, Text: "-a*a/3", Form: second, Dir: api.Up, Most: 64}, "-6666666e-7", 32, true}, {api.Act{Kind: api.Round, Text: "if 1 = 1 then a else 1", Form: five, Most: 64}, "144e-2", 32, false},
		{api.Act{Kind: api.Digits, Text: "-a", N: 3, Most: 64}, "-1.415", 32, false}, {api.Act{Kind: api.Digits, Text: "a*a", N: 0, Most: 64}, "2", 32, false},
		{api.Act{Kind: api.Roots, Text: "rootof(0; -2, 0, 1)"}, "((0 - sqrt(8)) / 2); ((0 + sqrt(8)) / 2)", 0, false}, {api.Act{Kind: api.Roots, Text: "(rootof(7; 0, -2, 0, 1))"}, "((0 - sqrt(8)) / 2); 0; ((0 + sqrt(8)) / 2)", 0, false}, {api.Act{Kind: api.Roots, Text: "rootof(0; 1, 0, 1)"}, "", 0, false},
	} {
		next, done := Do(s, x.a)
		if done.Err != api.OK || done.At != 0 || done.Text != x.text || done.W != x.w || !reflect.DeepEqual(next, s) {
			t.Fatal(x.a, done.Text, done.W, done.Err)
		}
		if again, twice := Do(next, x.a); !reflect.DeepEqual(twice, done) || !reflect.DeepEqual(again, s) {
			t.Fatal("twice", x.a)
		}
		if !x.has {
			if !reflect.DeepEqual(done.Claim, api.Claim{}) || !reflect.DeepEqual(done.Proof, api.Proof{}) {
				t.Fatal("a claim", x.a)
			}
			continue
		}
		if !kernel.Check(done.Claim, done.Proof) || done.Proof.W != done.W {
			t.Fatal("the kernel", x.a)
		}
		want, _ := rounded.Prove(done.Claim, 64)
		if !reflect.DeepEqual(want, done.Proof) {
			t.Fatal("proof", x.a)
		}
		c := done.Claim
		for other := -1; other <= 1; other++ {
			if c.Sign = other; c.Kind == api.SignIs && other != done.Claim.Sign && kernel.Check(c, done.Proof) {
				t.Fatal("another sign", x.a)
			}
		}
		c = done.Claim
		c.F.Man = nat.Add(c.F.Man, []uint32{1})
		if c.Kind == api.RoundIs && kernel.Check(c, done.Proof) {
			t.Fatal("another float", x.a)
		}
		for _, most := range []int{65, 1000} {
			x.a.Most = most
			if _, wide := Do(s, x.a); wide.Text != x.text || wide.W != x.w {
				t.Fatal("more budget", x.a)
			}
		}
	}
	_, done := Do(s, sign("a*a-2", 64))
	if e, _, _ := expr.Read("sqrt(2)*sqrt(2)-2"); !reflect.DeepEqual(done.Claim, api.Claim{Kind: api.SignIs, E: e}) {
		t.Fatal(done.Claim)
	}
}

func TestNamesKeepTheirWorth(t *testing.T) {
	s := run(t, New(), define("a", "2"), define("b", "a + 1"), define("a", "100"))
	if _, done := Do(s, sign("b - 3", 64)); done.Text != "0" {
		t.Fatal(done)
	}
	if _, done := Do(s, sign("let a = 1 in a - b + 2", 64)); done.Text != "0" {
		t.Fatal(done)
	}
	if _, done := Do(s, sign("sum(a, 1, 3; a) - 6", 64)); done.Text != "0" {
		t.Fatal(done)
	}
}

func TestRun(t *testing.T) {
	l := []api.Act{define("a", "sqrt(2)"), sign("a * a - 2", 64), define("b", "c + 1"), {Kind: api.Roots, Text: "rootof(0; -2, 0, 1)"}, {Kind: 99}}
	s, all := Run(l)
	if len(all) != len(l) || all[1].Text != "0" || all[1].W != 32 || all[2].Err != api.ErrName || all[3].Text == "" || all[4].Err != api.ErrAct || len(s.Names) != 1 {
		t.Fatal(s, all)
	}
	if s, all := Run(nil); !reflect.DeepEqual(s, New()) || len(all) != 0 {
		t.Fatal("nothing")
	}
}

func TestReplay(t *testing.T) {
	states := []api.State{New()}
	for _, a := range []api.Act{define("a", "sqrt(2)"), define("b", "a+1"), define("a", "b*b"), define("c_1", "sum(i,1,3;a)")} {
		states = append(states, run(t, states[len(states)-1], a))
	}
	last := states[len(states)-1]
	back, err := Replay(last.Log)
	if err != api.OK || !reflect.DeepEqual(back, last) {
		t.Fatal(back, err)
	}
	for cut := range last.Log {
		at := slices.IndexFunc(states, func(s api.State) bool { return len(s.Log) > cut }) - 1
		want := api.ErrCut
		if len(states[at].Log) == cut {
			want = api.OK
		}
		back, err := Replay(last.Log[:cut])
		if err != want || !reflect.DeepEqual(back.Names, states[at].Names) || !bytes.Equal(back.Log, states[at].Log) {
			t.Fatal(cut, back, err)
		}
		bad := bytes.Clone(last.Log)
		bad[cut] ^= 64
		back, err = Replay(bad)
		if err == api.OK || !reflect.DeepEqual(back.Names, states[at].Names) || !bytes.Equal(back.Log, states[at].Log) {
			t.Fatal("flipped", cut, back, err)
		}
	}
	// An entry that may be in a log, but not be defined: what is behind it is left.
	log, _ := store.Append(states[1].Log, api.Entry{Name: "b", Text: "c"})
	log, _ = store.Append(log, api.Entry{Name: "d", Text: "1"})
	for _, l := range [][]byte{log, append(bytes.Clone(log), 1)} {
		if back, err := Replay(l); err != api.ErrAct || !reflect.DeepEqual(back, states[1]) {
			t.Fatal(back, err)
		}
	}
	if back, err := Replay(nil); err != api.OK || !reflect.DeepEqual(back, New()) {
		t.Fatal("nothing")
	}
}
