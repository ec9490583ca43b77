package norm_test

import (
	"math"
	"reflect"
	"strings"
	"testing"

	"elenchus/api"
	"elenchus/norm"
	"elenchus/ops"
	"elenchus/read"
	"elenchus/term"
	"elenchus/write"
)

// The terms, spelt out.
func v(n int64) api.Term        { return api.Term{Kind: api.TVar, Int: n} }
func atom(name string) api.Term { return api.Term{Kind: api.TAtom, Name: name} }
func num(n int64) api.Term      { return api.Term{Kind: api.TInt, Int: n} }
func cpx(re, im uint64) api.Term {
	return api.Term{Kind: api.TCpx, Re: re, Im: im}
}
func comp(name string, args ...api.Term) api.Term {
	return api.Term{Kind: api.TComp, Name: name, Args: args}
}
func and(a, b api.Term) api.Term     { return comp(",", a, b) }
func rule(h, b api.Term) api.Term    { return comp(":-", h, b) }
func nothing(t api.Term) bool        { return reflect.DeepEqual(t, api.Term{}) }
func none(c norm.Clause) bool        { return nothing(c.Head) && c.Body == nil }
func alike(a, b []api.Term) bool     { return len(a) == 0 && len(b) == 0 || reflect.DeepEqual(a, b) }
func same(a, b norm.Clause) bool     { return reflect.DeepEqual(a.Head, b.Head) && alike(a.Body, b.Body) }
func clause(l ...string) norm.Clause { return norm.Clause{Head: rd(l[0]), Body: rds(l[1:]...)} }

// rd is the term of a text.
func rd(text string) api.Term {
	t, _, _, e := read.Term(text+" .", ops.New())
	if e != api.OK {
		panic(text)
	}
	return t
}

func rds(texts ...string) []api.Term {
	var l []api.Term
	for _, text := range texts {
		l = append(l, rd(text))
	}
	return l
}

// times is n of t.
func times(n int, t api.Term) []api.Term {
	l := make([]api.Term, n)
	for i := range l {
		l[i] = t
	}
	return l
}

// under is t with so many terms above it.
func under(levels int, t api.Term) api.Term {
	for range levels {
		t = comp("s", t)
	}
	return t
}

// wide is a term of so many nodes (from 1 on), not deep, whose last node is last.
func wide(nodes int, last api.Term) api.Term {
	t, have := last, 1
	for have+api.MaxArity <= nodes {
		t, have = comp("w", append(times(api.MaxArity-1, atom("x")), t)...), have+api.MaxArity
	}
	return under(nodes-have, t)
}

// ring is a term that stands in itself.
func ring(name string) api.Term {
	args := make([]api.Term, 2)
	args[0] = atom("a")
	args[1] = comp(name, args...)
	args[1].Args = args
	return args[1]
}

// toRight is the join of these that leans to the right, toLeft the one that leans to the left, balanced leans to none.
func toRight(l []api.Term) api.Term {
	t := l[len(l)-1]
	for i := len(l) - 2; i >= 0; i-- {
		t = and(l[i], t)
	}
	return t
}

func toLeft(l []api.Term) api.Term {
	t := l[0]
	for _, x := range l[1:] {
		t = and(t, x)
	}
	return t
}

func balanced(l []api.Term) api.Term {
	if len(l) == 1 {
		return l[0]
	}
	return and(balanced(l[:len(l)/2]), balanced(l[len(l)/2:]))
}

// numbered is n atoms, no two alike.
func numbered(n int) []api.Term {
	l := make([]api.Term, n)
	for i := range l {
		l[i] = atom("g" + write.Canonical(num(int64(i))))
	}
	return l
}

// dirty is t, each node with something in all that its kind gives no meaning.
func dirty(t api.Term) api.Term {
	d := api.Term{Kind: t.Kind, Name: ",", Int: -7, Re: 8, Im: 9, Args: times(2, api.Term{Kind: -1})}
	switch t.Kind {
	case api.TVar, api.TInt:
		d.Int = t.Int
	case api.TAtom:
		d.Name = t.Name
	case api.TCpx:
		d.Re, d.Im = t.Re, t.Im
	case api.TComp:
		d.Name, d.Args = t.Name, make([]api.Term, len(t.Args))
		for i, x := range t.Args {
			d.Args[i] = dirty(x)
		}
	}
	return d
}

// wrong: terms that may not be, and why.
func wrong() map[api.Errno][]api.Term {
	long := strings.Repeat("n", api.MaxName+1)
	l := map[api.Errno][]api.Term{
		api.ErrArg:  {{}, {Kind: -1}, {Kind: 6}, {Kind: math.MaxInt}, {Kind: 0, Name: "a"}, v(-1), v(math.MinInt64), comp("f"), comp("true"), {Kind: api.TComp, Name: "!", Args: []api.Term{}}},
		api.ErrLong: {atom(long), comp(long, num(1)), comp("f", times(api.MaxArity+1, atom("a"))...), under(api.MaxDepth, atom("a")), wide(api.MaxNodes+1, v(0)), ring("f"), ring(","), ring(":-"), ring(";")},
	}
	for e := range l {
		for _, x := range l[e] {
			l[e] = append(l[e], comp("f", atom("a"), x), and(x, atom("a")), and(atom("a"), x), rule(x, atom("a")), rule(atom("a"), x), rule(atom("a"), and(atom("b"), x)), comp(";", x, v(0)), comp(`\+`, x))
		}
	}
	return l
}

// P15.1: each kind of term.
func TestKey(t *testing.T) {
	most := strings.Repeat("n", api.MaxName)
	for i, x := range []struct {
		t     api.Term
		name  string
		arity int
		ok    bool
	}{
		{atom("a"), "a", 0, true},
		{atom(""), "", 0, true},
		{atom("[]"), "[]", 0, true},
		{atom(","), ",", 0, true},
		{atom(most), most, 0, true},
		{comp("f", v(0)), "f", 1, true},
		{comp("", v(0)), "", 1, true},
		{comp("f", comp("g", v(0), v(1)), num(2), atom("a")), "f", 3, true},
		{comp(most, times(api.MaxArity, v(1))...), most, api.MaxArity, true},
		{rd("a :- b"), ":-", 2, true},
		{rd("[a]"), ".", 2, true},
		{under(api.MaxDepth-1, v(0)), "s", 1, true},
		{wide(api.MaxNodes, v(0)), "s", 1, true},
		{wide(api.MaxArity+1, v(0)), "w", api.MaxArity, true},
		{v(0), "", 0, false},
		{v(math.MaxInt64), "", 0, false},
		{num(0), "", 0, false},
		{num(math.MinInt64), "", 0, false},
		{cpx(1, 2), "", 0, false},
	} {
		for _, y := range []api.Term{x.t, dirty(x.t)} {
			if name, arity, ok := norm.Key(y); name != x.name || arity != x.arity || ok != x.ok {
				t.Errorf("%d: %q %d %t", i, name, arity, ok)
			}
		}
	}
}

// P15.1: three names, each with its number of arguments, steer.
func TestControl(t *testing.T) {
	most := map[string]int{";": 2, "->": 2, `\+`: 1}
	for _, name := range []string{";", "->", `\+`, ",", ":-", "!", "true", "call", "", "a", "\\", "-", "+", "*->", "|", ";;"} {
		for arity := range api.MaxArity + 1 {
			x := atom(name)
			if arity > 0 {
				x = comp(name, times(arity, v(3))...)
			}
			want := arity > 0 && most[name] == arity
			if norm.Control(x) != want || norm.Control(dirty(x)) != want {
				t.Errorf("Control of %s/%d isn't %t", name, arity, want)
			}
		}
	}
	for _, x := range []api.Term{v(0), num(2), cpx(0, 0), {Kind: api.TVar, Name: ";", Args: times(2, v(0))}, {Kind: api.TAtom, Name: ";", Args: times(2, v(0))}, {Kind: api.TInt, Name: `\+`, Args: times(1, v(0))}} {
		if norm.Control(x) {
			t.Errorf("Control(%v)", x)
		}
	}
}

// P15.1, P15.2: zero of a term that may not be, wherever in it the fault stands.
func TestOfWrongTerms(t *testing.T) {
	for _, l := range wrong() {
		for i, x := range l {
			if name, arity, ok := norm.Key(x); name != "" || arity != 0 || ok {
				t.Errorf("Key of wrong term %d: %q %d %t", i, name, arity, ok)
			}
			if norm.Control(x) {
				t.Errorf("Control of wrong term %d", i)
			}
			if norm.Goals(x) != nil {
				t.Errorf("Goals of wrong term %d", i)
			}
			for _, row := range [][]api.Term{{x}, {x, x}, {x, atom("a")}, {atom("a"), x}, {atom("a"), v(0), x, atom("b")}} {
				if !nothing(norm.Join(row)) || !nothing(norm.Back(norm.Clause{Head: atom("h"), Body: row})) {
					t.Errorf("Join or Back of a row with wrong term %d", i)
				}
			}
			if !nothing(norm.Back(norm.Clause{Head: x})) || !nothing(norm.Back(norm.Clause{Head: x, Body: rds("a", "b")})) {
				t.Errorf("Back of a clause whose head is wrong term %d", i)
			}
		}
	}
}

// P15.2: what each term asks for.
func TestGoals(t *testing.T) {
	for text, want := range map[string][]string{
		"true": nil, "a": {"a"}, "!": {"!"}, "[]": {"[]"}, "','": {"','"}, "5": {"5"}, "-5": {"-5"}, "0c3ff00000000000000000000000000000": {"0c3ff00000000000000000000000000000"},
		"f(X,Y)": {"f(X,Y)"}, "X": {"call(X)"}, "call(X)": {"call(X)"}, "true(X)": {"true(X)"}, "call(true)": {"call(true)"}, "f(true,(a,b))": {"f(true,(a,b))"},
		"(a,b)": {"a", "b"}, "','(a)": {"','(a)"}, "','(a,b,c)": {"','(a,b,c)"}, "','((a,b))": {"','((a,b))"}, "','((a,b),c,(d,e))": {"','((a,b),c,(d,e))"},
		"(true,true)": nil, "((true,true),(true,true))": nil, "(a,true)": {"a"}, "(true,a)": {"a"}, "(true,(a,true),true)": {"a"},
		"(a,b,c,d)": {"a", "b", "c", "d"}, "(((a,b),c),d)": {"a", "b", "c", "d"}, "((a,b),(c,d))": {"a", "b", "c", "d"}, "((a,(b,c)),((d,e),f))": {"a", "b", "c", "d", "e", "f"}, "(a,((b,(c,d)),e),f)": {"a", "b", "c", "d", "e", "f"},
		"(a,5,a)": {"a", "5", "a"}, "(a;b,c)": {"(a;b,c)"}, "(a->b,c),(\\+ (d,e))": {"(a->b,c)", "\\+ (d,e)"}, "(!,!)": {"!", "!"}, "(a:-b),c": {":-(a,b)", "c"},
	} {
		if got := norm.Goals(rd(text)); !alike(got, rds(want...)) {
			t.Errorf("Goals(%s) = %v", text, got)
		}
		if got := norm.Goals(dirty(rd(text))); !alike(got, rds(want...)) {
			t.Errorf("Goals of %s, dirty, = %v", text, got)
		}
	}
	if got := norm.Goals(and(v(7), and(comp("f", v(3)), v(7)))); !alike(got, []api.Term{comp("call", v(7)), comp("f", v(3)), comp("call", v(7))}) {
		t.Error("numbers of variables stay:", got)
	}
	for _, x := range []api.Term{{Kind: api.TAtom, Name: ",", Args: times(2, atom("a"))}, {Kind: api.TAtom, Name: "true", Args: times(1, atom("a"))}} {
		if got := norm.Goals(x); !alike(got, norm.Goals(atom(x.Name))) {
			t.Error("what an atom has as arguments counts:", got)
		}
	}
	if got := norm.Goals(api.Term{Kind: api.TInt, Name: "true", Int: 4}); !alike(got, []api.Term{num(4)}) {
		t.Error("the name of an int counts:", got)
	}
}

// P15.2: joins as deep and as wide as may be, however they lean.
func TestGoalsOfGreatJoins(t *testing.T) {
	for _, x := range []struct {
		t api.Term
		l []api.Term
	}{
		{toRight(numbered(api.MaxDepth)), numbered(api.MaxDepth)},
		{toLeft(numbered(api.MaxDepth)), numbered(api.MaxDepth)},
		{balanced(numbered(api.MaxNodes / 2)), numbered(api.MaxNodes / 2)},
		{and(toLeft(numbered(api.MaxDepth-1)), toRight(numbered(api.MaxDepth-1))), append(numbered(api.MaxDepth-1), numbered(api.MaxDepth-1)...)},
		{and(toRight(numbered(api.MaxDepth-1)), toLeft(numbered(api.MaxDepth-1))), append(numbered(api.MaxDepth-1), numbered(api.MaxDepth-1)...)},
		{toRight(times(api.MaxDepth, v(5))), times(api.MaxDepth, comp("call", v(5)))},
		{toLeft(times(api.MaxDepth, v(5))), times(api.MaxDepth, comp("call", v(5)))},
		{balanced(times(api.MaxNodes/2, atom("true"))), nil},
		{under(api.MaxDepth-1, v(0)), []api.Term{under(api.MaxDepth-1, v(0))}},
	} {
		if e := term.May(x.t); e != api.OK {
			t.Error("such a term may not be", e)
		}
		if got := norm.Goals(x.t); !alike(got, x.l) {
			t.Errorf("%d goals, of %d", len(got), len(x.l))
		}
	}
	for i, x := range []api.Term{toRight(numbered(api.MaxDepth + 1)), toLeft(numbered(api.MaxDepth + 1)), balanced(numbered(api.MaxNodes/2 + 1))} {
		if norm.Goals(x) != nil {
			t.Error("goals of a join that is one too great", i)
		}
	}
}

// P15.2: rows of goals.
func TestJoin(t *testing.T) {
	for want, l := range map[string][]string{
		"true": nil, "a": {"a"}, "5": {"5"}, "_0": {"X"}, "(a,b)": {"(a,b)"}, "f(_0)": {"f(X)"},
		"','(a,b)": {"a", "b"}, "','(a,','(b,','(c,d)))": {"a", "b", "c", "d"}, "','(','(a,b),','(c,d))": {"(a,b)", "(c,d)"},
		"','(true,','(_0,','(5,','(!,true))))": {"true", "X", "5", "!", "true"}, "','(call(_0),;(a,b))": {"call(X)", "(a;b)"},
	} {
		got := norm.Join(rds(l...))
		if !reflect.DeepEqual(got, rd(want)) {
			t.Errorf("Join of %v = %s", l, write.Canonical(got))
		}
	}
	if got := norm.Join([]api.Term{}); !reflect.DeepEqual(got, atom("true")) {
		t.Error("Join of an empty list", got)
	}
	l := []api.Term{v(7), comp("f", v(3), num(1)), cpx(1, 2), v(7)}
	if got := norm.Join(l); !reflect.DeepEqual(got, toRight(l)) {
		t.Error("Join changes numbers of variables", got)
	}
	d := []api.Term{dirty(l[0]), dirty(l[1]), dirty(l[2]), dirty(l[3])}
	if got := norm.Join(d); !reflect.DeepEqual(got, toRight(l)) {
		t.Error("Join of dirty terms", got)
	}
	if got := norm.Join(append(numbered(3), wrong()[api.ErrArg]...)[:3]); !reflect.DeepEqual(got, toRight(numbered(3))) {
		t.Error("what lies behind a list's length is looked at", got)
	}
}

// P15.2: as many goals as may be, and one more; as many nodes, and one more.
func TestJoinBounds(t *testing.T) {
	head := atom("h")
	for i, x := range []struct {
		l                   []api.Term
		joinMay, backAsWell bool
	}{
		{numbered(api.MaxDepth - 1), true, true},
		{numbered(api.MaxDepth), true, false},
		{numbered(api.MaxDepth + 1), false, false},
		{numbered(100000), false, false},
		{[]api.Term{atom("a"), under(api.MaxDepth-3, v(0))}, true, true},
		{[]api.Term{atom("a"), under(api.MaxDepth-2, v(0))}, true, false},
		{[]api.Term{atom("a"), under(api.MaxDepth-1, v(0))}, false, false},
		{[]api.Term{under(api.MaxDepth-2, v(0)), atom("a")}, true, false},
		{[]api.Term{under(api.MaxDepth-1, v(0)), atom("a")}, false, false},
		{[]api.Term{under(api.MaxDepth-2, v(0))}, true, true},
		{[]api.Term{under(api.MaxDepth-1, v(0))}, true, false},
		{[]api.Term{wide(api.MaxNodes-4, v(0)), atom("a")}, true, true},
		{[]api.Term{wide(api.MaxNodes-3, v(0)), atom("a")}, true, false},
		{[]api.Term{wide(api.MaxNodes-2, v(0)), atom("a")}, true, false},
		{[]api.Term{wide(api.MaxNodes-1, v(0)), atom("a")}, false, false},
		{[]api.Term{wide(api.MaxNodes-2, v(0))}, true, true},
		{[]api.Term{wide(api.MaxNodes-1, v(0))}, true, false},
		{[]api.Term{wide(api.MaxNodes, v(0))}, true, false},
	} {
		join, back := api.Term{}, api.Term{}
		if x.joinMay {
			join = toRight(x.l)
		}
		if x.backAsWell {
			back = rule(head, toRight(x.l))
		}
		if got := norm.Join(x.l); !reflect.DeepEqual(got, join) {
			t.Error(i, "Join: Kind", got.Kind)
		}
		if got := norm.Back(norm.Clause{Head: head, Body: x.l}); !reflect.DeepEqual(got, back) {
			t.Error(i, "Back: Kind", got.Kind)
		}
	}
}

// P15.3: facts and rules.
func TestClauses(t *testing.T) {
	for text, want := range map[string]norm.Clause{
		"a :- b, (c, X), true":   clause("a", "b", "c", "call(X)"),
		"a":                      clause("a"),
		"[]":                     clause("[]"),
		"[a]":                    clause("[a]"),
		"p(X,Y,X)":               clause("p(X,Y,X)"),
		"call(X)":                clause("call(X)"),
		"a :- true":              clause("a"),
		"a :- true, (true,true)": clause("a"),
		"a :- b":                 clause("a", "b"),
		"a :- !":                 clause("a", "!"),
		"a :- X":                 clause("a", "call(X)"),
		"a :- (b;5)":             clause("a", "(b;5)"),
		"a :- f(5)":              clause("a", "f(5)"),
		"a :- call(5)":           clause("a", "call(5)"),
		"a :- (b,c;d,5)":         clause("a", "(b,c;d,5)"),
		"a :- (b,c),(d,e)":       clause("a", "b", "c", "d", "e"),
		"a :- :-(b,c)":           clause("a", ":-(b,c)"),
		"a :- :-(b)":             clause("a", ":-(b)"),
		"a :- ','(b)":            clause("a", "','(b)"),
		"a :- true(b), !(c)":     clause("a", "true(b)", "!(c)"),
		"p(5) :- q":              clause("p(5)", "q"),
		"p(:-(a,b))":             clause("p(:-(a,b))"),
	} {
		for _, x := range []api.Term{rd(text), dirty(rd(text))} {
			if got, e := norm.Clauses(x); e != api.OK || !same(got, want) {
				t.Errorf("Clauses(%s) = %v, %d", text, got, e)
			}
		}
	}
}

// P15.3: the heads that may not be, and their names with other numbers of arguments, which may.
func TestClausesHeads(t *testing.T) {
	refused := map[string][]int{";": {2}, "->": {2}, `\+`: {1}, ",": {2}, ":-": {2, 1}, "!": {0}, "true": {0}}
	for _, name := range []string{";", "->", `\+`, ",", ":-", "!", "true", "a", "", "call", "fail", "|", "?-", "-->"} {
		for arity := range 5 {
			head := atom(name)
			if arity > 0 {
				head = comp(name, times(arity, atom("x"))...)
			}
			want := api.OK
			for _, n := range refused[name] {
				if n == arity {
					want = api.ErrType
				}
			}
			for i, x := range []struct {
				t    api.Term
				body []api.Term
			}{{head, nil}, {rule(head, atom("true")), nil}, {rule(head, rd("b,c")), rds("b", "c")}} {
				if i == 0 && name == ":-" && arity == 2 { // that is a rule
					continue
				}
				c, e := norm.Clauses(x.t)
				if e != want || e != api.OK && !none(c) || e == api.OK && !same(c, norm.Clause{Head: head, Body: x.body}) {
					t.Errorf("head %s/%d, %d: %v %d", name, arity, i, c, e)
				}
			}
		}
	}
	for _, head := range []api.Term{v(0), v(9), num(0), num(-5), cpx(0, 0), cpx(1, 1), dirty(v(0)), dirty(num(1)), {Kind: api.TInt, Name: "a", Args: times(1, atom("a"))}} {
		for _, x := range []api.Term{head, rule(head, atom("b")), rule(head, atom("true")), rule(head, v(0))} {
			if c, e := norm.Clauses(x); e != api.ErrType || !none(c) {
				t.Errorf("head %v: %v %d", head, c, e)
			}
		}
	}
}

// P15.3: a goal that is a number, in each place of joins that lean each way.
func TestClausesNumbers(t *testing.T) {
	for _, n := range []api.Term{num(5), num(0), num(-1), cpx(0, 0), dirty(num(5)), dirty(cpx(1, 2))} {
		for size := 1; size <= 6; size++ {
			for at := range size {
				l := numbered(size)
				l[at] = n
				for _, body := range []api.Term{toRight(l), toLeft(l), balanced(l)} {
					if c, e := norm.Clauses(rule(atom("a"), body)); e != api.ErrType || !none(c) {
						t.Errorf("%v: %v %d", body, c, e)
					}
				}
			}
		}
	}
}

// P15.3: variables are numbered as they are met in the whole, head and body together.
func TestClausesVariables(t *testing.T) {
	const far = math.MaxInt64
	for i, x := range []struct {
		t    api.Term
		want norm.Clause
	}{
		{comp("p", v(7), v(3), v(7)), clause("p(A,B,A)")},
		{rule(comp("p", v(far)), and(v(2), and(comp("q", v(far), v(0)), v(2)))), norm.Clause{Head: comp("p", v(0)), Body: []api.Term{comp("call", v(1)), comp("q", v(0), v(2)), comp("call", v(1))}}},
		{rule(comp("p", v(1)), comp("q", v(0), v(1))), norm.Clause{Head: comp("p", v(0)), Body: []api.Term{comp("q", v(1), v(0))}}},
		{rule(atom("a"), and(and(v(9), v(8)), v(7))), norm.Clause{Head: atom("a"), Body: []api.Term{comp("call", v(0)), comp("call", v(1)), comp("call", v(2))}}},
		{rule(atom("a"), v(far)), norm.Clause{Head: atom("a"), Body: []api.Term{comp("call", v(0))}}},
		{rule(atom("a"), comp(";", v(4), comp("f", v(3)))), norm.Clause{Head: atom("a"), Body: []api.Term{comp(";", v(0), comp("f", v(1)))}}},
	} {
		if got, e := norm.Clauses(x.t); e != api.OK || !same(got, x.want) {
			t.Error(i, got, e)
		}
	}
}

// P15.3: terms that may not be, and why not.
func TestClausesOfWrongTerms(t *testing.T) {
	for want, l := range wrong() {
		for i, x := range l {
			if c, e := norm.Clauses(x); e != want || !none(c) {
				t.Errorf("wrong term %d of %d: %v %d", i, want, c, e)
			}
		}
	}
}

// P15.3: what may be, but not when its Back must be, too; one less of it is a clause.
func TestClausesTooLong(t *testing.T) {
	a := atom("a")
	calls := func(n int, last api.Term) api.Term { return toLeft(append(times(n-1, v(3)), last)) }
	for i, x := range []struct{ may, over api.Term }{
		{rule(a, toLeft(numbered(api.MaxDepth-1))), rule(a, balanced(numbered(api.MaxDepth)))},
		{rule(a, balanced(numbered(api.MaxDepth-1))), rule(a, balanced(numbered(api.MaxNodes/2-1)))},
		{rule(a, toRight(append(numbered(api.MaxDepth-3), v(0)))), rule(a, toRight(append(numbered(api.MaxDepth-2), v(0))))},
		{rule(a, toRight(append(numbered(api.MaxDepth-2), atom("b")))), rule(a, toRight(append(numbered(api.MaxDepth-3), v(1), v(0))))},
		{rule(a, calls(api.MaxDepth-2, v(0))), rule(a, calls(api.MaxDepth-1, v(0)))},
		{rule(a, and(wide(api.MaxNodes-5, v(0)), v(0))), rule(a, and(wide(api.MaxNodes-4, v(0)), v(0)))},
		{rule(wide(api.MaxNodes-3, v(0)), v(0)), rule(wide(api.MaxNodes-2, v(0)), v(0))},
		{rule(a, and(and(a, under(api.MaxDepth-4, a)), a)), rule(a, and(and(a, a), under(api.MaxDepth-3, a)))},
	} {
		if c, e := norm.Clauses(x.may); e != api.OK || term.May(norm.Back(c)) != api.OK {
			t.Error(i, "one less", e)
		}
		if c, e := norm.Clauses(x.over); e != api.ErrLong || !none(c) || term.May(x.over) != api.OK {
			t.Error(i, "too long", e)
		}
	}
}

// P15.3: goals that fall away, and how joins lean, may make a Back that may be of what is deep.
func TestClausesOfGreatTerms(t *testing.T) {
	a := atom("a")
	for i, x := range []struct {
		t    api.Term
		want norm.Clause
	}{
		{rule(a, balanced(times(900, atom("true")))), norm.Clause{Head: a}},
		{rule(a, toLeft(times(api.MaxDepth-1, atom("true")))), norm.Clause{Head: a}},
		{rule(a, balanced(append(times(450, atom("true")), numbered(api.MaxDepth-1)...))), norm.Clause{Head: a, Body: numbered(api.MaxDepth - 1)}},
		{rule(under(api.MaxDepth-2, a), a), norm.Clause{Head: under(api.MaxDepth-2, a), Body: []api.Term{a}}},
		{under(api.MaxDepth-1, a), norm.Clause{Head: under(api.MaxDepth-1, a)}},
		{wide(api.MaxNodes, a), norm.Clause{Head: wide(api.MaxNodes, a)}},
		{rule(wide(api.MaxNodes-2, a), a), norm.Clause{Head: wide(api.MaxNodes-2, a), Body: []api.Term{a}}},
	} {
		if got, e := norm.Clauses(x.t); e != api.OK || !same(got, x.want) {
			t.Error(i, e, len(got.Body))
		}
	}
}

// P15.3: of several errors the first that is listed: that of May, a head or a goal of another kind, one that is too long.
func TestClausesFirstError(t *testing.T) {
	a, many := atom("a"), numbered(api.MaxDepth)
	numberLast := append(numbered(api.MaxDepth), num(5))
	for i, x := range []struct {
		t    api.Term
		want api.Errno
	}{
		{rule(num(5), v(-1)), api.ErrArg},
		{rule(v(0), comp("f")), api.ErrArg},
		{rule(num(5), under(api.MaxDepth, a)), api.ErrLong},
		{rule(a, and(num(5), v(-1))), api.ErrArg},
		{and(a, atom(strings.Repeat("n", api.MaxName+1))), api.ErrLong},
		{comp(":-", comp("f")), api.ErrArg},
		{rule(num(5), balanced(many)), api.ErrType},
		{rule(atom("!"), balanced(many)), api.ErrType},
		{rule(a, balanced(numberLast)), api.ErrType},
		{rule(v(0), toRight(append(numbered(api.MaxDepth-3), v(0), v(0)))), api.ErrType},
		{rule(v(0), num(5)), api.ErrType},
		{rule(a, balanced(many)), api.ErrLong},
		{rule(comp("f", v(-1)), api.Term{Kind: api.TAtom, Name: strings.Repeat("n", api.MaxName+1)}), api.ErrArg},
		{rule(atom(strings.Repeat("n", api.MaxName+1)), v(-1)), api.ErrLong},
	} {
		if c, e := norm.Clauses(x.t); e != x.want || !none(c) {
			t.Errorf("%d: %d; want %d", i, e, x.want)
		}
	}
}

// P15.3: the term of a clause.
func TestBack(t *testing.T) {
	for want, c := range map[string]norm.Clause{
		"a":                      clause("a"),
		"p(X,Y,X)":               clause("p(X,Y,X)"),
		"a :- b":                 clause("a", "b"),
		"a :- b, c":              clause("a", "b", "c"),
		"a :- b, c, (d;e), f(g)": clause("a", "b", "c", "(d;e)", "f(g)"),
		"a :- (b, c), d":         clause("a", "(b,c)", "d"),
		"a :- true":              clause("a", "true"),
		"a :- X":                 clause("a", "X"),
		"a :- call(X)":           clause("a", "call(X)"),
		"a :- 5, !":              clause("a", "5", "!"),
		"X :- b":                 clause("X", "b"),
		"5":                      clause("5"),
		":-(:-(a,b),c)":          clause(":-(a,b)", "c"),
		":-(a,b)":                clause(":-(a,b)"),
	} {
		if got := norm.Back(c); !reflect.DeepEqual(got, rd(want)) {
			t.Errorf("Back of %v is %s", c, write.Canonical(got))
		}
		c.Head = dirty(c.Head)
		for i, g := range c.Body {
			c.Body[i] = dirty(g)
		}
		if got := norm.Back(c); !reflect.DeepEqual(got, rd(want)) {
			t.Errorf("Back of %s, dirty, is %s", want, write.Canonical(got))
		}
	}
	if got := norm.Back(norm.Clause{Head: comp("p", v(7)), Body: []api.Term{comp("q", v(3), v(7))}}); !reflect.DeepEqual(got, rule(comp("p", v(7)), comp("q", v(3), v(7)))) {
		t.Error("numbers of variables stay:", got)
	}
	if got := norm.Back(norm.Clause{Head: atom("a"), Body: []api.Term{}}); !reflect.DeepEqual(got, atom("a")) {
		t.Error("an empty list of goals is none:", got)
	}
	if got := norm.Back(norm.Clause{}); !nothing(got) {
		t.Error("a clause that is none:", got)
	}
}
