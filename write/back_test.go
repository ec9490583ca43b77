package write_test

import (
	"math/rand"
	"reflect"
	"slices"
	"strings"
	"testing"

	"elenchus/api"
	"elenchus/ops"
	"elenchus/read"
	"elenchus/term"
	"elenchus/token"
	"elenchus/write"
)

// comesBack: the text s of x is to be read as x, its variables renamed.
func comesBack(t *testing.T, s string, o *ops.Table, x api.Term) {
	t.Helper()
	y, _, at, e := read.Term(s+" .", o)
	if e != api.OK || !reflect.DeepEqual(y, term.Rename(x)) {
		t.Fatalf("%.300q is read as %.300q, %d, %d", s, write.Canonical(y), at, e)
	}
}

// isOnlyBetween tells whether read takes such a name for an operator between, and for none in front.
func isOnlyBetween(name string, o *ops.Table) bool {
	_, front := o.Prefix(name)
	_, between := o.Infix(name)
	return between && !front && token.Plain(name)
}

// standsAhead tells whether Ops writes an operator in front ahead of the name of one that is between alone (with its arguments behind it, or the sign of a number): by P13.1's grammar no term begins there.
func standsAhead(t api.Term, o *ops.Table) bool {
	if _, front := o.Prefix(t.Name); front && token.Plain(t.Name) && len(t.Args) == 1 {
		x := t.Args[0]
		switch {
		case x.Kind == api.TInt && x.Int < 0 && isOnlyBetween("-", o):
			return true
		case x.Kind == api.TComp && len(x.Args) != 2 && isOnlyBetween(x.Name, o):
			return true
		}
	}
	return slices.ContainsFunc(t.Args, func(a api.Term) bool { return standsAhead(a, o) })
}

// bothComeBack: what Canonical and Ops write of x is to be read as x.
func bothComeBack(t *testing.T, o *ops.Table, x api.Term) {
	t.Helper()
	comesBack(t, write.Canonical(x), o, x)
	if !standsAhead(x, o) {
		comesBack(t, write.Ops(x, o), o, x)
	}
}

// around is the terms of these names around each of l: of one argument, of three, and of two with each of those beside it, on both sides.
func around(names []string, l, beside []api.Term) []api.Term {
	var terms []api.Term
	for _, name := range names {
		for _, x := range l {
			terms = append(terms, comp(name, x), comp(name, x, x, x))
			for _, y := range beside {
				terms = append(terms, comp(name, x, y), comp(name, y, x))
			}
		}
	}
	return terms
}

// P14.3: terms of few names, all that are as deep as 2, and those around them.
func TestSmallTermsComeBack(t *testing.T) {
	names := []string{"a", "-", "=", ",", "[]", "."}
	small := []api.Term{variable(3), whole(1), whole(-1)}
	for _, name := range names {
		small = append(small, atom(name))
	}
	tables := []*ops.Table{ops.New(), table(t, op("a", api.XFX, 1), op("=", api.FX, 1200), op("-", api.FY, 0))}
	for _, x := range slices.Concat(small, around(names, around(names, small, small), small[2:5])) {
		for _, o := range tables {
			bothComeBack(t, o, x)
		}
	}
}

// P14.3: of operators of every type and priority, by themselves and in one another.
func TestOperatorsComeBack(t *testing.T) {
	for front := range 3 {
		for between := range 4 {
			for _, priority := range []int{1, 2, 200, 999, 1000, 1200} {
				o := ops.New()
				for _, name := range []string{"foo", "-", "!", "<>"} {
					o.Set(op(name, api.FY, 0))
					o.Set(op(name, api.XFX, 0))
					if front > 0 {
						o.Set(op(name, api.FY+front-1, priority))
					}
					if between > 0 {
						o.Set(op(name, api.XFX+between-1, priority))
					}
				}
				for _, f := range []string{"foo", "-", "!", "<>", "+", "*", `\+`} {
					for _, g := range []string{"foo", "-", "=", ":-", ","} {
						l := []api.Term{atom(g), comp(g, atom(g)), comp(g, whole(-7), whole(7)), comp(g, atom("x"), atom(f), atom("y")), pair(atom(g), atom(f))}
						for _, x := range l {
							bothComeBack(t, o, comp(f, x))
							bothComeBack(t, o, comp(f, x, x, x))
							for _, y := range l {
								bothComeBack(t, o, comp(f, x, y))
							}
						}
					}
				}
			}
		}
	}
}

// P14.3: many terms, by tables of every sort.
func TestManyTermsComeBack(t *testing.T) {
	tables := []*ops.Table{nil, {}, ops.New(), strange(t)}
	r := rand.New(rand.NewSource(3))
	for range 10000 {
		x := someTerm(r, r.Intn(6))
		for _, o := range tables {
			bothComeBack(t, o, x)
		}
	}
}

// grown is x with f around it, as often as a term may be deep.
func grown(x api.Term, f func(api.Term) api.Term) api.Term {
	for range api.MaxDepth - 1 {
		x = f(x)
	}
	return x
}

// P14.3: terms as deep, as wide and of as many nodes as may be; each part is written once, however deep it stands.
func TestGreatTermsComeBack(t *testing.T) {
	name := strings.Repeat("'", api.MaxName)
	wide := comp("w", atom("z"))
	for term.Nodes(wide)+api.MaxArity <= api.MaxNodes {
		wide = comp("=", append(slices.Repeat([]api.Term{comp("-", whole(1))}, api.MaxArity/2-1), wide)...)
	}
	for term.Nodes(wide) < api.MaxNodes {
		wide = comp("u", wide)
	}
	great := []api.Term{
		wide,
		grown(atom("-"), func(x api.Term) api.Term { return comp("-", x) }),
		grown(atom("x"), func(x api.Term) api.Term { return comp("+", x, atom("is")) }),
		grown(atom("x"), func(x api.Term) api.Term { return comp(",", whole(-1), x) }),
		grown(atom("x"), func(x api.Term) api.Term { return comp("+", whole(-1), x, atom("-")) }),
		grown(end, func(x api.Term) api.Term { return pair(x, end) }),
		grown(end, func(x api.Term) api.Term { return pair(atom("="), x) }),
		grown(variable(5), func(x api.Term) api.Term { return pair(whole(-1), x) }),
	}
	for i, x := range great {
		if e := term.May(x); e != api.OK {
			t.Fatal(i, e, term.Nodes(x))
		}
		bothComeBack(t, ops.New(), x)
		for range 200 {
			write.Plain(x)
			write.Ops(x, ops.New())
		}
	}
	writes(t, grown(atom(name), func(x api.Term) api.Term { return comp(name, x, atom(name), atom(name)) }),
		strings.Repeat(token.Quote(name)+"(", api.MaxDepth-1)+token.Quote(name)+strings.Repeat(","+token.Quote(name)+","+token.Quote(name)+")", api.MaxDepth-1))
}
