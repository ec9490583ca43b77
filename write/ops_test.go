package write_test

import (
	"strings"
	"testing"

	"elenchus/api"
	"elenchus/ops"
)

// op is an operator.
func op(name string, kind, priority int) api.Op {
	return api.Op{Name: name, Type: kind, Priority: priority}
}

// table is the operators that there are at first, and these.
func table(t *testing.T, l ...api.Op) *ops.Table {
	t.Helper()
	o := ops.New()
	for _, x := range l {
		if e := o.Set(x); e != api.OK {
			t.Fatal(x, e)
		}
	}
	return o
}

// P14.2: the chapter's example, and operators by their places and arguments.
func TestOps(t *testing.T) {
	o := ops.New()
	a, b, c := atom("a"), atom("b"), atom("c")
	writesOps(t, o, comp("+", whole(1), comp("f", list(end, atom("a")), atom("B"))), "(1 + f([a],'B'))")
	writesOps(t, o, comp("f", variable(3), whole(-4), cpx(1, 2), end, atom("it's")), `f(_3,-4,0c00000000000000010000000000000002,[],'it\'s')`)
	for _, x := range o.All() {
		if x.Name == "," {
			continue
		}
		_, front := o.Prefix(x.Name)
		_, between := o.Infix(x.Name)
		writesOps(t, o, atom(x.Name), "("+x.Name+")")
		one, two := x.Name+"(a)", x.Name+"(a,b)"
		if front {
			one = "(" + x.Name + " a)"
		}
		if between {
			two = "(a " + x.Name + " b)"
		}
		writesOps(t, o, comp(x.Name, a), one)
		writesOps(t, o, comp(x.Name, a, b), two)
		writesOps(t, o, comp(x.Name, a, b, c), x.Name+"(a,b,c)")
		writesOps(t, o, comp("f", atom(x.Name)), "f(("+x.Name+"))")
		writesOps(t, o, comp(x.Name, atom(x.Name), atom(x.Name), atom(x.Name)), x.Name+"(("+x.Name+"),("+x.Name+"),("+x.Name+"))")
	}
	writesOps(t, o, comp("f", a, b), "f(a,b)")
	writesOps(t, o, comp("a", a), "a(a)")
	writesOps(t, o, comp("[]", a, b), "'[]'(a,b)")
	writesOps(t, o, comp("", a), "''(a)")
}

// P14.2: operators in operators, on each side; whatever their priorities, each has its parentheses.
func TestOpsInOps(t *testing.T) {
	o := ops.New()
	a, b, c := atom("a"), atom("b"), atom("c")
	writesOps(t, o, comp("+", comp("*", a, b), c), "((a * b) + c)")
	writesOps(t, o, comp("*", a, comp("+", b, c)), "(a * (b + c))")
	writesOps(t, o, comp("-", comp("-", a, b), comp("-", a, b)), "((a - b) - (a - b))")
	writesOps(t, o, comp("-", comp("-", comp("-", a))), "(- (- (- a)))")
	writesOps(t, o, comp("-", comp("-", whole(1)), comp("-", whole(-1))), "((- 1) - (- -1))")
	writesOps(t, o, comp(`\+`, comp(",", a, comp(`\+`, b))), `(\+ (a , (\+ b)))`)
	writesOps(t, o, comp(":-", comp(":-", a), comp(":-", b, c)), "((:- a) :- (b :- c))")
	writesOps(t, o, comp(":-", comp("p", variable(0)), comp(",", comp("is", variable(1), comp("+", variable(0), whole(1))), atom("!"))), "(p(_0) :- ((_1 is (_0 + 1)) , !))")
	writesOps(t, o, comp("-", atom("-"), atom("-")), "((-) - (-))")
	writesOps(t, o, comp("-", atom("+")), "(- (+))")
	writesOps(t, o, comp("=", comp("f", comp("+", a, b), comp("-", c)), list(comp("-", a), comp("=", b, c), atom("is"))), "(f((a + b),(- c)) = [(b = c),(is)|(- a)])")
	writesOps(t, o, comp("+", a, comp("+", b)), "(a + +(b))")
	writesOps(t, o, comp("+", comp("=", a, b, c), comp("=", a)), "(=(a,b,c) + =(a))")
}

// P14.2: operators as items and as tails; a list is none, whatever its name.
func TestOpsInLists(t *testing.T) {
	o := table(t, op(".", api.YFX, 500), op(".", api.FY, 500))
	a, b := atom("a"), atom("b")
	writesOps(t, o, list(atom("-"), atom("+")), "[(+)|(-)]")
	writesOps(t, o, list(end, comp("+", a, b), comp("-", a), comp(",", a, b)), "[(a + b),(- a),(a , b)]")
	writesOps(t, o, list(comp("-", a, b), a), "[a|(a - b)]")
	writesOps(t, o, list(comp("-", list(end, a)), a), "[a|(- [a])]")
	writesOps(t, o, comp("-", list(b, a), end), "([a|b] - [])")
	writesOps(t, o, list(variable(1), list(end, atom("is")), end), "[[(is)],[]|_1]")
	writesOps(t, o, pair(a, b), "[a|b]")
	writesOps(t, o, comp(".", a), "'.'(a)")
	writesOps(t, o, comp(".", a, b, a), "'.'(a,b,a)")
	writesOps(t, o, list(atom("."), atom(".")), "['.'|'.']")
}

// P14.2: a comma is an operator between, and between alone; as a name otherwise it has its quotes.
func TestComma(t *testing.T) {
	o := ops.New()
	a, b, c := atom("a"), atom("b"), atom(",")
	writesOps(t, o, comp(",", a, b), "(a , b)")
	writesOps(t, o, comp(",", comp(",", a, b), comp(",", b, a)), "((a , b) , (b , a))")
	writesOps(t, o, comp("f", comp(",", a, b)), "f((a , b))")
	writesOps(t, o, c, "','")
	writesOps(t, o, comp(",", c, c), "(',' , ',')")
	writesOps(t, o, comp(",", a), "','(a)")
	writesOps(t, o, comp(",", a, b, c), "','(a,b,',')")
	writesOps(t, o, comp("-", c), "(- ',')")
	writesOps(t, o, list(c, c), "[','|',']")
	for _, none := range []*ops.Table{nil, {}} {
		writesOps(t, none, comp(",", a, b), "','(a,b)")
		writesOps(t, none, c, "','")
	}
	writesOps(t, o, atom("|"), "'|'")
	writesOps(t, o, comp("|", a, b), "'|'(a,b)")
}

// P14.2: operators of every type and priority that were set; of a name that is not token.Plain they count for nothing.
func TestOpsThatWereSet(t *testing.T) {
	a, b := atom("a"), atom("b")
	for _, name := range []string{"foo", "!", ";", "<>", "..", "nAME_1", strings.Repeat("n", api.MaxName)} {
		for kind := api.XFX; kind <= api.FX; kind++ {
			for _, priority := range []int{1, 700, 1200} {
				o := &ops.Table{}
				if e := o.Set(op(name, kind, priority)); e != api.OK {
					t.Fatal(name, kind, priority, e)
				}
				one, two := "("+name+" ("+name+"))", name+"(a,b)"
				if kind <= api.YFX {
					one, two = name+"(("+name+"))", "(a "+name+" b)"
				}
				writesOps(t, o, atom(name), "("+name+")")
				writesOps(t, o, comp(name, atom(name)), one)
				writesOps(t, o, comp(name, a, b), two)
				writesOps(t, o, comp(name, a, b, a), name+"(a,b,a)")
			}
		}
	}
	for name, quoted := range map[string]string{"my op": "'my op'", "A": "'A'", "_": "'_'", "'": `'\''`, ".": "'.'", "[a]": "'[a]'", "/*": "'/*'", "%": "'%'", "a\n": `'a\n'`, "{}": "'{}'", "1": "'1'", " ": "' '", "é": "'é'", "-a": "'-a'"} {
		o := table(t, op(name, api.FY, 200), op(name, api.YFX, 200))
		writesOps(t, o, atom(name), quoted)
		writesOps(t, o, comp(name, a), quoted+"(a)")
		writesOps(t, o, comp("f", comp(name, a, b)), "f("+strings.ReplaceAll(quoted+"(a,b)", "'.'(a,b)", "[a|b]")+")")
	}
}

// P14.2: an operator of one place is none of the other; one that was set to nothing is none.
func TestOpsThatAreNone(t *testing.T) {
	a, b := atom("a"), atom("b")
	o := table(t, op("-", api.YFX, 0), op("is", api.XFX, 0), op("foo", api.FX, 9), op("foo", api.FX, 0), op(":-", api.FY, 0))
	writesOps(t, o, comp("-", a, b), "-(a,b)")
	writesOps(t, o, comp("-", a), "(- a)")
	writesOps(t, o, atom("-"), "(-)")
	writesOps(t, o, comp("is", a, b), "is(a,b)")
	writesOps(t, o, atom("is"), "is")
	writesOps(t, o, comp("foo", atom("foo")), "foo(foo)")
	writesOps(t, o, comp(":-", a), ":-(a)")
	writesOps(t, o, comp(":-", a, b), "(a :- b)")
	o.Set(op("-", api.FY, 0))
	writesOps(t, o, atom("-"), "-")
	writesOps(t, o, comp("-", a), "-(a)")
}

// P14.2, where the grammar of read has it that no term begins behind the operator: the text is as P14.2 says.
func TestOpsAheadOfNames(t *testing.T) {
	o := ops.New()
	a, b, c := atom("a"), atom("b"), atom("c")
	writesOps(t, o, comp("-", comp("=", a)), "(- =(a))")
	writesOps(t, o, comp("-", comp("*", a)), "(- *(a))")
	writesOps(t, o, comp(`\+`, comp("is", a, b, c)), `(\+ is(a,b,c))`)
	writesOps(t, o, comp("-", comp("=", a, b)), "(- (a = b))")
	writesOps(t, o, comp("-", comp("-", a, b, c)), "(- -(a,b,c))")
	writesOps(t, o, comp("f", comp("=", a)), "f(=(a))")
	o = table(t, op("-", api.FY, 0))
	writesOps(t, o, comp(":-", whole(-1)), "(:- -1)")
	writesOps(t, o, comp("+", whole(-1), whole(-1)), "(-1 + -1)")
}
