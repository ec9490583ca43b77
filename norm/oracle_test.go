package norm_test

import (
	"reflect"
	"testing"

	"elenchus/api"
	"elenchus/norm"
	"elenchus/term"
)

// goalsOf is the goals of t by the chapter's words: recursion beside the package's stack.
func goalsOf(t api.Term) []api.Term {
	switch {
	case t.Kind == api.TComp && t.Name == "," && len(t.Args) == 2:
		return append(goalsOf(t.Args[0]), goalsOf(t.Args[1])...)
	case t.Kind == api.TVar:
		return []api.Term{comp("call", t)}
	case t.Kind == api.TAtom && t.Name == "true":
		return nil
	}
	return []api.Term{t}
}

// joinOf is the join of l by the chapter's words.
func joinOf(l []api.Term) api.Term {
	switch len(l) {
	case 0:
		return atom("true")
	case 1:
		return l[0]
	}
	return and(l[0], joinOf(l[1:]))
}

// backOf is the term of a clause by the chapter's words.
func backOf(c norm.Clause) api.Term {
	if len(c.Body) == 0 {
		return c.Head
	}
	return rule(c.Head, joinOf(c.Body))
}

// clauseOf is the clause of t, which may be, by the chapter's words.
func clauseOf(t api.Term) (norm.Clause, api.Errno) {
	t = term.Rename(t)
	c := norm.Clause{Head: t}
	if t.Kind == api.TComp && t.Name == ":-" && len(t.Args) == 2 {
		c = norm.Clause{Head: t.Args[0], Body: goalsOf(t.Args[1])}
	}
	head := struct {
		name  string
		arity int
	}{c.Head.Name, len(c.Head.Args)}
	for _, x := range []struct {
		name  string
		arity int
	}{{";", 2}, {"->", 2}, {`\+`, 1}, {",", 2}, {":-", 2}, {":-", 1}, {"!", 0}, {"true", 0}} {
		if head == x {
			return norm.Clause{}, api.ErrType
		}
	}
	for _, x := range append([]api.Term{c.Head}, c.Body...) {
		if x.Kind == api.TInt || x.Kind == api.TCpx {
			return norm.Clause{}, api.ErrType
		}
	}
	if c.Head.Kind == api.TVar {
		return norm.Clause{}, api.ErrType
	}
	if term.May(backOf(c)) != api.OK {
		return norm.Clause{}, api.ErrLong
	}
	return c, api.OK
}

// leaves: terms of one node, of each kind.
func leaves() []api.Term {
	return []api.Term{v(0), v(4), num(5), cpx(1, 0), atom("a"), atom("true"), atom("!"), atom(",")}
}

// grown: these, and the terms of one more level over them.
func grown(l []api.Term) []api.Term {
	all := append([]api.Term{}, l...)
	for _, x := range l {
		for _, name := range []string{`\+`, ":-", "call", ",", "true"} {
			all = append(all, comp(name, x))
		}
		for _, y := range l {
			for _, name := range []string{",", ":-", ";", "->", "f"} {
				all = append(all, comp(name, x, y))
			}
		}
		all = append(all, comp(",", x, x, x), comp(":-", x, x, x))
	}
	return all
}

// small: small terms of the names that count; bodies, rows of goals and heads of many kinds are among them.
func small() []api.Term {
	l := grown(leaves())
	few := []api.Term{v(4), v(1), num(5), atom("a"), atom("true"), and(atom("a"), v(1)), and(v(1), v(4)), and(atom("true"), num(5)), comp("f", v(9), v(1)), comp(";", v(4), num(5))}
	all := append([]api.Term{}, l...)
	for _, x := range l {
		for _, y := range few {
			all = append(all, and(x, y), and(y, x), rule(y, x), rule(x, y), rule(atom("a"), and(x, y)), rule(atom("a"), and(y, x)), rule(atom("a"), and(and(y, x), and(x, y))))
		}
	}
	return all
}

// P15.1, P15.2: Key, Control and Goals of small terms, held against the chapter's words; Join of their Goals is one that asks for the same.
func TestGoalsOfSmallTerms(t *testing.T) {
	for _, x := range small() {
		got := norm.Goals(x)
		if !alike(got, goalsOf(x)) {
			t.Fatalf("Goals(%v) = %v", x, got)
		}
		join := norm.Join(got)
		if !reflect.DeepEqual(join, joinOf(got)) {
			t.Fatalf("Join of the goals of %v is %v", x, join)
		}
		if again := norm.Goals(join); !alike(again, got) {
			t.Fatalf("goals of the join of the goals of %v: %v", x, again)
		}
		name, arity, ok := norm.Key(x)
		if ok != (x.Kind == api.TAtom || x.Kind == api.TComp) || name != x.Name || arity != len(x.Args) {
			t.Fatalf("Key(%v) = %q %d %t", x, name, arity, ok)
		}
		if norm.Control(x) != (arity == 2 && (name == ";" || name == "->") || arity == 1 && name == `\+`) {
			t.Fatalf("Control(%v)", x)
		}
	}
}

// P15.3, P15.4: Clauses of small terms, held against the chapter's words; Clauses of their Back is the clause.
func TestClausesOfSmallTerms(t *testing.T) {
	taken := 0
	for _, x := range small() {
		want, wantE := clauseOf(x)
		got, e := norm.Clauses(x)
		if e != wantE || e == api.OK && !same(got, want) || e != api.OK && !none(got) {
			t.Fatalf("Clauses(%v) = %v, %d", x, got, e)
		}
		if e != api.OK {
			continue
		}
		taken++
		comesBack(t, got)
	}
	if taken < 1000 {
		t.Error("few of the terms are clauses:", taken)
	}
}

// comesBack: Back of c is as the chapter says, and Clauses of it is c.
func comesBack(t *testing.T, c norm.Clause) {
	t.Helper()
	back := norm.Back(c)
	if !reflect.DeepEqual(back, backOf(c)) {
		t.Fatalf("Back of %v is %v", c, back)
	}
	if again, e := norm.Clauses(back); e != api.OK || !same(again, c) {
		t.Fatalf("Clauses of Back of %v: %v, %d", c, again, e)
	}
}

// P15.4: clauses made by hand, with goals of each kind, and as great as may be.
func TestClausesOfBack(t *testing.T) {
	goals := rds("a", "!", "','", "f(X)", "call(X)", "(a;b,c)", "(a->b)", "\\+ (a,5)", "','(a)", "','(a,b,c)", ":-(a,b)", "true(a)", "[]", "[a|T]")
	for _, head := range rds("h", "h(X)", "h(X,Y,X)", "';'", "';'(a,b,c)", "\\+(a,b)", "!(a)", "true(X)", ":-(a,b,c)", ":-", "','(a)") {
		for i := range goals {
			for n := range len(goals) - i {
				for _, t1 := range []api.Term{atom("x"), comp("g", v(1), v(0))} {
					c := norm.Clause{Head: head, Body: append(append([]api.Term{}, goals[i:i+n]...), t1)}
					comesBack(t, renumbered(c))
				}
			}
		}
		comesBack(t, renumbered(norm.Clause{Head: head}))
	}
	for _, c := range []norm.Clause{
		{Head: atom("a"), Body: numbered(api.MaxDepth - 1)},
		{Head: atom("a"), Body: times(api.MaxDepth-2, comp("call", v(0)))},
		{Head: under(api.MaxDepth-2, v(0)), Body: []api.Term{under(api.MaxDepth-2, v(0))}},
		{Head: wide(api.MaxNodes-2, v(0)), Body: []api.Term{atom("b")}},
		{Head: atom("h"), Body: []api.Term{wide(api.MaxNodes-4, v(0)), atom("b")}},
		{Head: wide(api.MaxNodes, v(0))},
	} {
		comesBack(t, c)
	}
}

// renumbered is c, its variables numbered as they are met in its head, then in goal by goal.
func renumbered(c norm.Clause) norm.Clause {
	t := term.Rename(comp("c", c.Head, term.List(c.Body, atom("[]"))))
	body, _ := term.Items(t.Args[1])
	return norm.Clause{Head: t.Args[0], Body: body}
}
