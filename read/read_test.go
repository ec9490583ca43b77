package read_test

import (
	"fmt"
	"math"
	"reflect"
	"slices"
	"strings"
	"testing"

	"elenchus/api"
	"elenchus/ops"
	"elenchus/read"
	"elenchus/term"
	"elenchus/token"
)

// The terms, spelt out.
func atom(name string) api.Term  { return api.Term{Kind: api.TAtom, Name: name} }
func variable(n int64) api.Term  { return api.Term{Kind: api.TVar, Int: n} }
func whole(n int64) api.Term     { return api.Term{Kind: api.TInt, Int: n} }
func cpx(re, im uint64) api.Term { return api.Term{Kind: api.TCpx, Re: re, Im: im} }
func comp(name string, args ...api.Term) api.Term {
	return api.Term{Kind: api.TComp, Name: name, Args: args}
}
func pair(item, tail api.Term) api.Term { return comp(".", item, tail) }
func op(name string, kind, priority int) api.Op {
	return api.Op{Name: name, Type: kind, Priority: priority}
}

// table is one of just these operators.
func table(t *testing.T, l ...api.Op) *ops.Table {
	t.Helper()
	x := &ops.Table{}
	for _, o := range l {
		if e := x.Set(o); e != api.OK {
			t.Fatal(o, e)
		}
	}
	return x
}

// short is s, or its beginning.
func short(s string) string {
	if len(s) > 80 {
		return fmt.Sprintf("%q.. (%d bytes)", s[:80], len(s))
	}
	return fmt.Sprintf("%q", s)
}

// plain is t's text: a compound's name, and its arguments between parentheses, whatever they are.
func plain(t api.Term) string {
	switch t.Kind {
	case api.TVar:
		return fmt.Sprintf("_%d", t.Int)
	case api.TAtom:
		return t.Name
	case api.TInt:
		return fmt.Sprint(t.Int)
	case api.TCpx:
		return fmt.Sprintf("0c%016x%016x", t.Re, t.Im)
	case api.TComp:
		var l []string
		for _, x := range t.Args {
			l = append(l, plain(x))
		}
		return t.Name + "(" + strings.Join(l, " ") + ")"
	}
	return "none"
}

// is: s is to be just this term, with these names.
func is(t *testing.T, s string, o *ops.Table, want api.Term, names ...string) {
	t.Helper()
	x, l, at, e := read.Term(s, o)
	if !reflect.DeepEqual(x, want) || !slices.Equal(l, names) || at != 0 || e != api.OK {
		t.Errorf("Term(%s) = %s, %q, %d, %d; want %s, %q", short(s), plain(x), l, at, e, plain(want), names)
	}
}

// looks: s is to be a term whose plain text is want.
func looks(t *testing.T, s string, o *ops.Table, want string) {
	t.Helper()
	x, _, at, e := read.Term(s, o)
	if plain(x) != want || !reflect.DeepEqual(x, term.Plain(x)) || at != 0 || e != api.OK {
		t.Errorf("Term(%s) = %s, %d, %d; want %s", short(s), short(plain(x)), at, e, short(want))
	}
}

// refuses: s is to be no term, for the reason e, at this place; and no clause, unless more stands behind one.
func refuses(t *testing.T, s string, o *ops.Table, at int, e api.Errno) {
	t.Helper()
	x, names, gotAt, gotE := read.Term(s, o)
	if !reflect.DeepEqual(x, api.Term{}) || names != nil || gotAt != at || gotE != e {
		t.Errorf("Term(%s) = %s, %q, %d, %d; want error %d at %d", short(s), short(plain(x)), names, gotAt, gotE, e, at)
	}
}

// P13.1: the chapter's examples, and an ordinary clause.
func TestOrdinary(t *testing.T) {
	o := ops.New()
	is(t, "X is 1+2*3.", o, comp("is", variable(0), comp("+", whole(1), comp("*", whole(2), whole(3)))), "X")
	is(t, "- 1.", o, comp("-", whole(1)))
	is(t, "-1.", o, whole(-1))
	is(t, "len([_|T], N) :- len(T, M), N is M+1. % and on\n", o,
		comp(":-", comp("len", pair(variable(0), variable(1)), variable(2)),
			comp(",", comp("len", variable(1), variable(3)), comp("is", variable(2), comp("+", variable(3), whole(1))))),
		"_", "T", "N", "M")
}

// P13.1: what is a term by itself.
func TestSimple(t *testing.T) {
	one := strings.Repeat("0", 16) + "3ff0000000000000"
	for _, o := range []*ops.Table{nil, {}, ops.New()} {
		is(t, "a.", o, atom("a"))
		is(t, " 'A b'.\n", o, atom("A b"))
		is(t, "''.", o, atom(""))
		is(t, "!.", o, atom("!"))
		is(t, "@ .", o, atom("@"))
		is(t, "','.", o, atom(","))
		is(t, "'|' .", o, atom("|"))
		is(t, "')'.", o, atom(")"))
		is(t, "'[]'.", o, atom("[]"))
		is(t, "[].", o, atom("[]"))
		is(t, "[ /* nothing */ ].", o, atom("[]"))
		is(t, "0.", o, whole(0))
		is(t, "9223372036854775807.", o, whole(math.MaxInt64))
		is(t, "0c"+one+".", o, cpx(0, 0x3ff0000000000000))
		is(t, "X.", o, variable(0), "X")
		is(t, "_.", o, variable(0), "_")
		is(t, "f(a).", o, comp("f", atom("a")))
		is(t, "'F g'( a , 1 ).", o, comp("F g", atom("a"), whole(1)))
		is(t, "'[]'(a).", o, comp("[]", atom("a")))
		is(t, "''('').", o, comp("", atom("")))
		is(t, "'.'(a,[]).", o, pair(atom("a"), atom("[]")))
		is(t, "(a).", o, atom("a"))
		is(t, "( ( 'b' ) ).", o, atom("b"))
		is(t, "f((a)).", o, comp("f", atom("a")))
		is(t, "f(g(h(X)),[Y],(Z)).", o, comp("f", comp("g", comp("h", variable(0))), pair(variable(1), atom("[]")), variable(2)), "X", "Y", "Z")
	}
}

// P13.1: variables are numbered as they are met; `_` is a new one each time.
func TestVariables(t *testing.T) {
	o := ops.New()
	is(t, "f(_,_).", o, comp("f", variable(0), variable(1)), "_", "_")
	is(t, "f(X,Y,X).", o, comp("f", variable(0), variable(1), variable(0)), "X", "Y")
	is(t, "f(_, Abc, _, X_1, Abc).", o, comp("f", variable(0), variable(1), variable(2), variable(3), variable(1)), "_", "Abc", "_", "X_1")
	is(t, "f(__,_a,__,_,_a,_1,_A).", o, comp("f", variable(0), variable(1), variable(0), variable(2), variable(1), variable(3), variable(4)), "__", "_a", "_", "_1", "_A")
	is(t, "f(X,x,'X',X).", o, comp("f", variable(0), atom("x"), atom("X"), variable(0)), "X")
	is(t, "f(_0,_1,_0).", o, comp("f", variable(0), variable(1), variable(0)), "_0", "_1")
	is(t, "Y = X - Y.", o, comp("=", variable(0), comp("-", variable(1), variable(0))), "Y", "X")
	is(t, "[B,A|B].", o, pair(variable(0), pair(variable(1), variable(0))), "B", "A")
	is(t, "f(g(_),h(C),g(_),C).", o, comp("f", comp("g", variable(0)), comp("h", variable(1)), comp("g", variable(2)), variable(1)), "_", "C", "_")
	long := "V" + strings.Repeat("v", api.MaxName-1)
	is(t, "p("+long+",V).", o, comp("p", variable(0), variable(1)), long, "V")
}

// P13.1: a name with `(` right behind it, and with something between.
func TestNamesAhead(t *testing.T) {
	o := ops.New()
	looks(t, "f(a,b).", o, "f(a b)")
	looks(t, "'f'(a).", o, "f(a)")
	looks(t, "!(a).", o, "!(a)")
	for _, s := range []string{"f (a).", "f\n(a).", "! (a).", "X (a)."} {
		refuses(t, s, o, 2, api.ErrForm)
	}
	refuses(t, "f/**/(a).", o, 5, api.ErrForm)
	refuses(t, "'f' (a).", o, 4, api.ErrForm)
	refuses(t, "X(a).", o, 1, api.ErrForm)
	refuses(t, "1(a).", o, 1, api.ErrForm)
	refuses(t, "[](a).", o, 2, api.ErrForm)
	refuses(t, "f(a)(b).", o, 4, api.ErrForm)
	refuses(t, "(f)(b).", o, 3, api.ErrForm)
	refuses(t, "f().", o, 2, api.ErrForm)
	refuses(t, "f(,).", o, 2, api.ErrForm)
	refuses(t, "f(a,).", o, 4, api.ErrForm)
	refuses(t, "f(,a).", o, 2, api.ErrForm)
	refuses(t, "f(a,,b).", o, 4, api.ErrForm)
	refuses(t, "f(a].", o, 3, api.ErrForm)
	refuses(t, "f(a|b).", o, 3, api.ErrForm)
	refuses(t, "f(a b).", o, 4, api.ErrForm)
	refuses(t, "f(a.", o, 3, api.ErrForm)
	refuses(t, "f( a", o, 4, api.ErrForm)
	refuses(t, "f( ", o, 3, api.ErrForm)
	looks(t, "- (a).", o, "-(a)")
	looks(t, "-(a).", o, "-(a)")
	looks(t, "-(a,b).", o, "-(a b)")
	looks(t, "- (a,b).", o, "-(,(a b))")
	looks(t, ":-(a,b,c).", o, ":-(a b c)")
	looks(t, "mod(a,b).", o, "mod(a b)")
	looks(t, "'-'(1).", o, "-(1)")
	refuses(t, "'-' (1).", o, 4, api.ErrForm)
}

// P13.1: a term in parentheses, alone and behind a name that is an operator between.
func TestParentheses(t *testing.T) {
	o := ops.New()
	looks(t, "((a,b)).", o, ",(a b)")
	looks(t, "f((a,b)).", o, "f(,(a b))")
	looks(t, "f((a:-b),c).", o, "f(:-(a b) c)")
	looks(t, "(:- a).", o, ":-(a)")
	looks(t, "[(a,b)|(c:-d)].", o, ".(,(a b) :-(c d))")
	looks(t, "1-(2).", o, "-(1 2)")
	looks(t, "1 -(2,3).", o, "-(1 ,(2 3))")
	looks(t, "1 - (2).", o, "-(1 2)")
	looks(t, "1-(2)-(3).", o, "-(-(1 2) 3)")
	looks(t, "a=(b=c).", o, "=(a =(b c))")
	looks(t, "(a=b)=c.", o, "=(=(a b) c)")
	looks(t, "a:-(b:-c).", o, ":-(a :-(b c))")
	looks(t, "- -(1).", o, "-(-(1))")
	looks(t, "(-)-(-).", o, "-(- -)")
	refuses(t, "(-)(-).", o, 3, api.ErrForm)
	for s, at := range map[string]int{"().": 1, "(a.": 2, "(a": 2, "(": 1, "(a].": 2, "(a|b).": 2, "a).": 1, ").": 0, "(a)).": 3, "((a).": 4, "(a b).": 3, "(.": 1, "1-().": 3, "1-(2.": 4} {
		refuses(t, s, o, at, api.ErrForm)
	}
	refuses(t, "( .", o, 2, api.ErrForm)
}

// P13.1: lists.
func TestLists(t *testing.T) {
	o := ops.New()
	is(t, "[a].", o, pair(atom("a"), atom("[]")))
	is(t, "[a,b,c].", o, pair(atom("a"), pair(atom("b"), pair(atom("c"), atom("[]")))))
	is(t, "[a|T].", o, pair(atom("a"), variable(0)), "T")
	is(t, "[a,b|T].", o, pair(atom("a"), pair(atom("b"), variable(0))), "T")
	is(t, "[a|[]].", o, pair(atom("a"), atom("[]")))
	is(t, "[a|[b|[c]]].", o, pair(atom("a"), pair(atom("b"), pair(atom("c"), atom("[]")))))
	is(t, "[[]].", o, pair(atom("[]"), atom("[]")))
	is(t, "[[a],[]|b].", o, pair(pair(atom("a"), atom("[]")), pair(atom("[]"), atom("b"))))
	looks(t, "[a=b,c-d|e=f].", o, ".(=(a b) .(-(c d) =(e f)))")
	looks(t, "[1-2,:-].", o, ".(-(1 2) .(:- []))")
	looks(t, "[','|'|'].", o, ".(, |)")
	looks(t, "[']',')'].", o, ".(] .() []))")
	for s, at := range map[string]int{"[a|b|c].": 4, "[a|b,c].": 4, "[a|].": 3, "[|a].": 1, "[|].": 1, "[a,].": 3, "[,a].": 1, "[,].": 1, "[a,|b].": 3, "[a||b].": 3, "[a|b c].": 5, "[a b].": 3, "[a).": 2,
		"[a|b).": 4, "[a": 2, "[a|": 3, "[a|b": 4, "[": 1, "[a,": 3, "].": 0, "[a]].": 3, "[a.": 2, "[a|b.": 4, "[a:-b].": 2, "[a|b:-c].": 4, "[a;b].": 2, "[a|b;c].": 4, "[a] [b].": 4, "[a][b].": 3} {
		refuses(t, s, o, at, api.ErrForm)
	}
}

// P13.1: `-` ahead of a number.
func TestMinus(t *testing.T) {
	one := "3ff0000000000000" + "0000000000000000"
	for _, o := range []*ops.Table{nil, {}, ops.New(), table(t, op("-", api.FX, 1200)), table(t, op("-", api.XFY, 1))} {
		is(t, "-1.", o, whole(-1))
		is(t, "-0.", o, whole(0))
		is(t, "-9223372036854775807.", o, whole(-math.MaxInt64))
		is(t, "-9223372036854775808.", o, whole(math.MinInt64))
		is(t, "f(-9223372036854775808,-1,[-2|-3],(-4)).", o, comp("f", whole(math.MinInt64), whole(-1), pair(whole(-2), whole(-3)), whole(-4)))
		refuses(t, "'-'1.", o, 3, api.ErrForm)
		refuses(t, "-1(a).", o, 2, api.ErrForm)
		refuses(t, "-1 2.", o, 3, api.ErrForm)
		refuses(t, "-1-9223372036854775809.", o, 3, api.ErrOver)
		refuses(t, "- 9223372036854775808.", o, 2, api.ErrOver)
		refuses(t, "+9223372036854775808.", o, 1, api.ErrOver)
	}
	o := ops.New()
	looks(t, "- 1.", o, "-(1)")
	looks(t, "-%\n1.", o, "-(1)")
	looks(t, "-\n1.", o, "-(1)")
	looks(t, "- -1.", o, "-(-1)")
	looks(t, "- - 1.", o, "-(-(1))")
	looks(t, "-(1).", o, "-(1)")
	looks(t, "-X.", o, "-(_0)")
	looks(t, "-a.", o, "-(a)")
	looks(t, "-0c"+one+".", o, "-(0c"+one+")")
	looks(t, "1-1.", o, "-(1 1)")
	looks(t, "1 -1.", o, "-(1 1)")
	looks(t, "1 - -1.", o, "-(1 -1)")
	looks(t, "1- -1.", o, "-(1 -1)")
	looks(t, "1 - 1.", o, "-(1 1)")
	refuses(t, "a=-1.", o, 1, api.ErrForm) // a row of two signs is no operator
	looks(t, "a= -1.", o, "=(a -1)")
	looks(t, "-1^2.", o, "^(-1 2)")
	looks(t, "- 1^2.", o, "-(^(1 2))")
	looks(t, "-1-1.", o, "-(-1 1)")
	looks(t, "X-9223372036854775807.", o, "-(_0 9223372036854775807)")
	looks(t, "X- -9223372036854775808.", o, "-(_0 -9223372036854775808)")
	refuses(t, "a -9223372036854775808.", o, 3, api.ErrForm)
	refuses(t, "1-9223372036854775808.", o, 2, api.ErrForm)
	refuses(t, "f(1-9223372036854775808).", o, 4, api.ErrForm)
	refuses(t, "a - 9223372036854775808.", o, 4, api.ErrOver)
	refuses(t, "- 1.", nil, 2, api.ErrForm)
	refuses(t, "1 -1.", nil, 2, api.ErrForm)
	refuses(t, "--1.", o, 2, api.ErrForm)
}

// P13.1: an operator as an atom by itself: ahead of what closes it, its priority is 0.
func TestAtomsThatClose(t *testing.T) {
	o := ops.New()
	for _, name := range []string{":-", "-", `\+`, "=", "is", "mod", "^", ";", "->", "=..", "+"} {
		looks(t, name+" .", o, name)
		looks(t, "f("+name+" ,a).", o, "f("+name+" a)")
		looks(t, "f(a,"+name+" ).", o, "f(a "+name+")")
		looks(t, "("+name+").", o, name)
		looks(t, "["+name+"].", o, ".("+name+" [])")
		looks(t, "["+name+" ,a].", o, ".("+name+" .(a []))")
		looks(t, "["+name+"|a].", o, ".("+name+" a)")
		looks(t, "[a|"+name+"].", o, ".(a "+name+")")
		looks(t, "a = "+name+" .", o, "=(a "+name+")")
		looks(t, "a ^ "+name+" .", o, "^(a "+name+")")
		looks(t, name+" , a.", o, ",("+name+" a)")
		refuses(t, name, o, len(name), api.ErrForm)
		refuses(t, "f("+name, o, 2+len(name), api.ErrForm)
		refuses(t, "a = "+name, o, 4+len(name), api.ErrForm)
	}
}

// P13.1: an operator as an atom by itself ahead of anything else: its priority is the greatest that it has.
func TestAtomsThatGoOn(t *testing.T) {
	o := ops.New()
	looks(t, "- = x.", o, "=(- x)")
	looks(t, "= ; a.", o, ";(= a)")
	looks(t, ":- , a.", o, ",(:- a)")
	looks(t, "- + 1.", o, "+(- 1)")
	refuses(t, "- :- a.", o, 2, api.ErrForm)
	looks(t, "mod = - .", o, "=(mod -)")
	looks(t, "X = - , a.", o, ",(=(_0 -) a)")
	looks(t, "f(- = x).", o, "f(=(- x))")
	refuses(t, "= = a.", o, 2, api.ErrForm)
	refuses(t, "f(= = a).", o, 4, api.ErrForm)
	refuses(t, "- * 3.", o, 2, api.ErrForm)
	refuses(t, "- mod 3.", o, 2, api.ErrForm)
	refuses(t, `\+ = a.`, o, 3, api.ErrForm)
	refuses(t, ":- = a.", o, 3, api.ErrForm)
	refuses(t, "= a.", o, 2, api.ErrForm)
	refuses(t, "= (a).", o, 2, api.ErrForm)
	refuses(t, "a ^ - = b.", o, 4, api.ErrForm)
	refuses(t, "a - - = b.", o, 4, api.ErrForm) // 500, above 499
	refuses(t, "a = - = b.", o, 6, api.ErrForm)
	refuses(t, "f(:- a).", o, 2, api.ErrForm)
	refuses(t, "f(a, :- a).", o, 5, api.ErrForm)
	refuses(t, "[:- a].", o, 1, api.ErrForm)
	refuses(t, "[a|:- a].", o, 3, api.ErrForm)
	refuses(t, "f(; a).", o, 2, api.ErrForm)
	refuses(t, "a = :- b.", o, 4, api.ErrForm)
	refuses(t, `a = \+ b.`, o, 4, api.ErrForm)
	refuses(t, `- \+ b.`, o, 2, api.ErrForm)
	refuses(t, ":- :- a.", o, 3, api.ErrForm)
	refuses(t, "a :- :- b.", o, 5, api.ErrForm)
	looks(t, "'=' = a.", o, "=(= a)") // between quotes it is none
	looks(t, "f(':-' = a).", o, "f(=(:- a))")
	refuses(t, "= = a.", nil, 2, api.ErrForm)
}

// P13.1: operators between, by their types: what stands beside them has at most just their bound.
func TestTypesBetween(t *testing.T) {
	for _, x := range []struct{ kind, left, right int }{{api.XFX, 499, 499}, {api.XFY, 499, 500}, {api.YFX, 500, 499}} {
		for _, inner := range []int{498, 499, 500, 501, 1200} {
			o := table(t, op("op", x.kind, 500), op("pre", api.FX, inner), op("mid", api.XFX, inner))
			if inner <= x.left {
				looks(t, "mid op b.", o, "op(mid b)")
			} else {
				refuses(t, "mid op b.", o, 4, api.ErrForm)
			}
			if inner <= x.right {
				looks(t, "a op pre b.", o, "op(a pre(b))")
			} else {
				refuses(t, "a op pre b.", o, 5, api.ErrForm)
			}
			looks(t, "(mid) op (pre b).", o, "op(mid pre(b))")
		}
	}
	o := ops.New()
	looks(t, "a,b,c.", o, ",(a ,(b c))")
	looks(t, "2^3^4.", o, "^(2 ^(3 4))")
	looks(t, "1-2-3.", o, "-(-(1 2) 3)")
	looks(t, "1-2+3*4*5-6.", o, "-(+(-(1 2) *(*(3 4) 5)) 6)")
	looks(t, "a:-b,c;d->e;f.", o, ":-(a ;(,(b c) ;(->(d e) f)))")
	looks(t, "a mod b rem c//d.", o, "//(rem(mod(a b) c) d)")
	looks(t, "a = b , c = d.", o, ",(=(a b) =(c d))")
	refuses(t, "a = b = c.", o, 6, api.ErrForm)
	refuses(t, "a :- b :- c.", o, 7, api.ErrForm)
	refuses(t, "a = b is c.", o, 6, api.ErrForm)
	refuses(t, "a,b = c = d.", o, 8, api.ErrForm)
	refuses(t, "[a = b = c].", o, 7, api.ErrForm)
}

// P13.1: operators in front, by their types.
func TestTypesInFront(t *testing.T) {
	for _, x := range []struct{ kind, bound int }{{api.FY, 500}, {api.FX, 499}} {
		for _, inner := range []int{498, 499, 500, 501, 1200} {
			o := table(t, op("op", x.kind, 500), op("pre", api.FX, inner), op("mid", api.XFX, inner))
			if inner <= x.bound {
				looks(t, "op pre b.", o, "op(pre(b))")
				looks(t, "op a mid b.", o, "op(mid(a b))")
			} else {
				refuses(t, "op pre b.", o, 3, api.ErrForm)
			}
			if inner > 500 {
				looks(t, "op a mid b.", o, "mid(op(a) b)")
			}
			looks(t, "op (pre b).", o, "op(pre(b))")
			looks(t, "op(mid,b).", o, "op(mid b)")
		}
		both := table(t, op("op", x.kind, 500), op("mid", api.XFX, 500))
		if x.kind == api.FX {
			refuses(t, "op a mid b.", both, 5, api.ErrForm) // neither is a side of the other
			refuses(t, "op op a.", both, 3, api.ErrForm)
		} else {
			looks(t, "op a mid b.", both, "op(mid(a b))")
			looks(t, "op op a.", both, "op(op(a))")
		}
	}
	o := ops.New()
	looks(t, `\+ \+ a.`, o, `\+(\+(a))`)
	looks(t, `\+a,b.`, o, `,(\+(a) b)`)
	looks(t, `\+ (a,b).`, o, `\+(,(a b))`)
	looks(t, `\+(a,b).`, o, `\+(a b)`)
	looks(t, ":- a.", o, ":-(a)")
	looks(t, ":- a,b.", o, ":-(,(a b))")
	looks(t, "- - a.", o, "-(-(a))")
	looks(t, "a- - -b.", o, "-(a -(-(b)))")
	looks(t, "- a - b.", o, "-(-(a) b)")
	looks(t, "- a ^ b.", o, "-(^(a b))")
	looks(t, "- a * b.", o, "*(-(a) b)")
	looks(t, "2 ^ - 1.", o, "^(2 -(1))")
	refuses(t, ":- :- a.", o, 3, api.ErrForm)
	refuses(t, ":- a :- b.", o, 5, api.ErrForm)
}

// P13.1: an operator in front, by what it stands ahead of and by its priority.
func TestFrontAhead(t *testing.T) {
	o := ops.New()
	for what, want := range map[string]string{"a": "a", "'='": "=", "X": "_0", "_": "_0", "1": "1", "-1": "-1", "(a,b)": ",(a b)", "[]": "[]", "[a]": ".(a [])", "f(a)": "f(a)", "'='(a)": "=(a)", "-": "-", `\+`: `\+`, ":-": ":-", `\+ a`: `\+(a)`, "- a": "-(a)"} {
		looks(t, `\+ `+what+" .", o, `\+(`+want+")")
	}
	for _, only := range []string{"=", "+", ";", "is", "->"} { // none in front, so no term begins with them there
		x := table(t, op("-", api.FY, 200), op(only, api.XFX, 1200))
		looks(t, "(- "+only+" b).", x, only+"(- b)")
		refuses(t, "- "+only+" .", x, 3+len(only), api.ErrForm)
	}
	looks(t, "- + (a,b).", o, "+(- ,(a b))")
	refuses(t, `\+ = (a).`, o, 3, api.ErrForm)
	refuses(t, "- - = a.", o, 2, api.ErrForm) // the second is an atom by itself, of priority 500
	for most, text := range map[int]string{1200: "%s.", 1199: "p %s.", 999: "f(%s).", 998: "q %s."} {
		for _, priority := range []int{1, most - 1, most, most + 1} {
			x := table(t, op("p", api.FX, 1200), op("q", api.FX, 999))
			if x.Set(op("op", api.FY, priority)) != api.OK {
				continue // none is above 1200
			}
			s := fmt.Sprintf(text, "op a")
			y, _, at, e := read.Term(s, x)
			if good := priority <= most; good != (e == api.OK) || good && !strings.Contains(plain(y), "op(a)") || !good && (e != api.ErrForm || at != strings.Index(s, "op")) {
				t.Errorf("Term(%q) with %d: %s, %d, %d", s, priority, plain(y), at, e)
			}
			closed := fmt.Sprintf(text, "op ")
			if y, _, _, e := read.Term(closed, x); e != api.OK || !strings.Contains(plain(y), "op") {
				t.Errorf("Term(%q) with %d: %s, %d", closed, priority, plain(y), e)
			}
		}
	}
}

// P13.1: an operator that is between alone ends what one in front can stand ahead of, also with its arguments behind it.
func TestFrontAheadOfNames(t *testing.T) {
	o := ops.New()
	looks(t, "- =(a).", o, "=(- a)")
	looks(t, "- =(a,b).", o, "=(- ,(a b))")
	looks(t, `\+ ;(a).`, o, `;(\+ a)`)
	looks(t, `\+ ->(a),b.`, o, `->(\+ ,(a b))`)
	looks(t, "f(- =(a),b).", o, "f(=(- a) b)")
	looks(t, "[- =(a)|- is(b)].", o, ".(=(- a) is(- b))")
	for s, at := range map[string]int{"- *(a).": 2, "- *(a,b).": 2, "- *(a,b,c).": 2, "- mod(a).": 2, ":- is(a,b,c).": 3, `\+ =(X, Y).`: 3, `a :- \+ =(X, Y).`: 8, "a ^ - =(b).": 4, "- - =(a).": 2, "f(:- =(a)).": 2, "[- *(a)].": 3, "(- *(a)).": 3} {
		refuses(t, s, o, at, api.ErrForm)
	}
	x := ops.New()
	x.Set(op("p", api.XFX, 1))
	refuses(t, ":- p(X).", x, 3, api.ErrForm)
	refuses(t, `(X) :- \+ p(X)`, x, 10, api.ErrForm)
	if l, at, e := read.All("a. :- p(X).", x); l != nil || at != 6 || e != api.ErrForm {
		t.Error(l, at, e)
	}
	looks(t, "a :- p(X).", x, ":-(a p(_0))") // elsewhere it is a name
	looks(t, "a - *(b).", o, "-(a *(b))")
	looks(t, "- (*(a)).", o, "-(*(a))")
	looks(t, "-(*(a)).", o, "-(*(a))")
	for s, want := range map[string]string{"- f(a).": "-(f(a))", ":- p(X).": ":-(p(_0))", "- -(a).": "-(-(a))", "- -(a,b).": "-(-(a b))", `\+ :-(a,b,c).`: `\+(:-(a b c))`, "- '*'(a).": "-(*(a))", "- '='(a,b).": "-(=(a b))", "- ','(a).": "-(,(a))"} {
		looks(t, s, o, want)
	}
}

// P13.1: `,` ends an argument and an item, and is an operator elsewhere; `|` is none.
func TestCommaAndBar(t *testing.T) {
	o := ops.New()
	looks(t, "a , b.", o, ",(a b)")
	looks(t, "(a,b),c.", o, ",(,(a b) c)")
	looks(t, "f(a,b).", o, "f(a b)")
	looks(t, "f((a,b),c).", o, "f(,(a b) c)")
	looks(t, "f(a=b,c).", o, "f(=(a b) c)")
	looks(t, "[a,b|(c,d)].", o, ".(a .(b ,(c d)))")
	looks(t, "','(a,b).", o, ",(a b)")
	looks(t, "a ; b , c.", o, ";(a ,(b c))")
	refuses(t, "a ',' b.", o, 2, api.ErrForm)
	refuses(t, "a,.", o, 2, api.ErrForm)
	refuses(t, ",a.", o, 0, api.ErrForm)
	refuses(t, "a,,b.", o, 2, api.ErrForm)
	refuses(t, ", .", o, 0, api.ErrForm)
	for _, x := range []*ops.Table{nil, {}} {
		refuses(t, "a,b.", x, 1, api.ErrForm)
		refuses(t, "(a,b).", x, 2, api.ErrForm)
		looks(t, "f(a,[b,c]).", x, "f(a .(b .(c [])))")
	}
	for s, at := range map[string]int{"a|b.": 1, "(a|b).": 2, "f(a|b).": 3, "|.": 0, "| .": 0, "|a.": 0, "a = |.": 4, "- |.": 2, "a | .": 2, "[(a|b)].": 3} {
		refuses(t, s, o, at, api.ErrForm)
	}
}

// P13.1: without operators there are but simple terms.
func TestNoOperators(t *testing.T) {
	for _, o := range []*ops.Table{nil, {}} {
		looks(t, "-(1,-2) .", o, "-(1 -2)")
		looks(t, "= .", o, "=")
		looks(t, "f(=,-,:-).", o, "f(= - :-)")
		refuses(t, "1 + 2 .", o, 2, api.ErrForm)
		refuses(t, "a = b.", o, 2, api.ErrForm)
		refuses(t, "- a.", o, 2, api.ErrForm)
		refuses(t, ":- a.", o, 3, api.ErrForm)
		refuses(t, "= = a.", o, 2, api.ErrForm)
	}
}

// P13.1: operators that were set are as good as those that there are at first.
func TestOtherOperators(t *testing.T) {
	o := ops.New()
	for _, x := range []api.Op{op("likes", api.XFX, 700), op("not", api.FY, 900), op("!", api.FX, 100), op("-", api.XFX, 0)} {
		o.Set(x)
	}
	looks(t, "not a likes b.", o, "not(likes(a b))")
	looks(t, "not not a.", o, "not(not(a))")
	looks(t, "! a = b.", o, "=(!(a) b)")
	looks(t, "likes likes likes.", table(t, op("likes", api.FY, 1)), "likes(likes(likes))")
	looks(t, "- a.", o, "-(a)")
	refuses(t, "a - b.", o, 2, api.ErrForm)
	refuses(t, "a 'likes' b.", o, 2, api.ErrForm)
	refuses(t, "'not' a.", o, 6, api.ErrForm)
	all := o.All()
	looks(t, "a likes b.", o, "likes(a b)")
	if !slices.Equal(o.All(), all) {
		t.Error("the table is changed")
	}
}

// P13.1: where no term goes on, at each token and at the text's end.
func TestPlaces(t *testing.T) {
	o := ops.New()
	const clause = "f(a, [X|'b']) :- - 12 , \\+ (g) . "
	tokens, _, _ := token.All(clause)
	for _, x := range tokens {
		refuses(t, clause[:x.At], o, x.At, api.ErrForm)
		refuses(t, clause[:x.At]+" % and no more", o, x.At+14, api.ErrForm)
	}
	for s, at := range map[string]int{"": 0, " ": 1, " % a\n": 5, "a": 1, "a ": 2, " a b.": 3, "a) .": 1, " .": 1, ".": 0, "a + .": 4, "a +": 3, "{a}": 0, "a = ) .": 4, "a ] .": 2, "a 'b'.": 2, "a B.": 2, "a 1.": 2, "a (b).": 2, "a [b].": 2, "a , .": 4, "1 2.": 2, "X Y.": 2,
		"'a' 'b'.": 4, "a = b c.": 6, "a = 1 2.": 6, "\\+ .a": 4, "- ) .": 2, "f(:- ) a.": 7, "a :- b": 6} {
		refuses(t, s, o, at, api.ErrForm)
	}
}

// P13.1: nothing but white space and remarks stands behind the KEnd.
func TestBehindTheEnd(t *testing.T) {
	o := ops.New()
	for _, s := range []string{"a.", "a. ", "a.\n\t\r ", "a.%x", "a. %x\n", "a. /* b. */"} {
		looks(t, s, o, "a")
	}
	for _, s := range []string{"b", "b.", ".", ")", "X. %"} {
		refuses(t, "a. "+s, o, 2, api.ErrForm)
		refuses(t, " f(a) .\n\n"+s, o, 7, api.ErrForm)
	}
	refuses(t, "a.%\nb.", o, 2, api.ErrForm)
}

// P13.1: what is no token is told ahead of all else, as token.All tells it.
func TestTokensErrors(t *testing.T) {
	o := ops.New()
	long := strings.Repeat("n", api.MaxName+1)
	for _, x := range []struct {
		s  string
		at int
		e  api.Errno
	}{{"a 'x", 2, api.ErrForm}, {"f(01).", 2, api.ErrForm}, {"{", 0, api.ErrForm}, {"a. /*", 3, api.ErrForm}, {"x = 99999999999999999999.", 4, api.ErrOver}, {long + ".", 0, api.ErrLong}, {" f(" + long + ").", 3, api.ErrLong}, {"f(V" + long + ").", 2, api.ErrLong},
		{"f('" + long + "').", 2, api.ErrLong}, {" a b 99999999999999999999", 5, api.ErrOver}, {"a. b. " + long, 6, api.ErrLong}, {")) {", 3, api.ErrForm}, {strings.Repeat("(", 3000) + " 9223372036854775808", 3001, api.ErrOver},
		{strings.Repeat(" ", api.MaxText+1), 0, api.ErrLong}, {"a." + strings.Repeat(" ", api.MaxText-1), 0, api.ErrLong}} {
		refuses(t, x.s, o, x.at, x.e)
		if l, at, e := read.All(x.s, o); l != nil || at != x.at || e != x.e {
			t.Errorf("All(%s) = %d clauses, %d, %d; want error %d at %d", short(x.s), len(l), at, e, x.e, x.at)
		}
	}
	looks(t, "a."+strings.Repeat(" ", api.MaxText-2), o, "a")
	looks(t, "f("+long[1:]+").", o, "f("+long[1:]+")")
}

// ofNodes is a term's text: the term has just so many nodes, and is not deep.
func ofNodes(n int) string {
	if n == 1 {
		return "a"
	}
	n--
	args := min(n, api.MaxArity)
	var l []string
	for i := range args {
		share := n / args
		if i < n%args {
			share++
		}
		l = append(l, ofNodes(share))
	}
	return "f(" + strings.Join(l, ",") + ")"
}

// P13.1: terms that are as great as may be, and greater ones: these are told at their first token.
func TestGreatTerms(t *testing.T) {
	o := ops.New()
	nest := func(n int, ahead, x, behind string) string {
		return strings.Repeat(ahead, n) + x + strings.Repeat(behind, n)
	}
	for _, x := range []struct {
		good, bad string
	}{
		{ofNodes(api.MaxNodes), ofNodes(api.MaxNodes + 1)},
		{"f(" + strings.Repeat("a,", 19) + "a)", "f(" + strings.Repeat("a,", 20) + "a)"},
		{"-(g(" + strings.Repeat("X,", 19) + "X))", "-(g(" + strings.Repeat("X,", 20) + "X))"},
		{nest(499, "s(", "x", ")"), nest(500, "s(", "x", ")")},
		{nest(499, "[", "x", "]"), nest(500, "[", "x", "]")},
		{nest(499, "[", "[]", "]"), nest(500, "[", "[]", "]")},
		{"[" + strings.Repeat("a,", 498) + "a]", "[" + strings.Repeat("a,", 499) + "a]"},
		{"[" + strings.Repeat("a,", 498) + "a|b]", "[" + strings.Repeat("a,", 499) + "a|b]"},
		{nest(499, "- ", "x", ""), nest(500, "- ", "x", "")},
		{nest(499, "a,", "x", ""), nest(500, "a,", "x", "")},
		{nest(499, "", "x", "-a"), nest(500, "", "x", "-a")},
		{"_" + strings.Repeat("-_", 499), "_" + strings.Repeat("-_", 500)},
		{nest(499, "(a,", "x", ")"), nest(500, "(a,", "x", ")")},
	} {
		if y, _, at, e := read.Term("  "+x.good+" .", o); y.Kind == 0 || at != 0 || e != api.OK {
			t.Errorf("Term(%s): %d, %d", short(x.good), at, e)
		}
		for _, s := range []string{x.bad, "(" + x.bad + ")", "f(b," + x.bad + ")"} {
			refuses(t, "  "+s+" .", o, 2, api.ErrLong)
			refuses(t, "  "+s+" . b.", o, 2, api.ErrLong)        // ahead of what stands behind the KEnd
			refuses(t, "  "+s, o, 2+len(s), api.ErrForm)         // behind what goes on no more
			refuses(t, "  "+s+" ) .", o, 3+len(s), api.ErrForm)  // here, too
			refuses(t, "  "+s+" . 01", o, 5+len(s), api.ErrForm) // and behind what is no token
			refuses(t, "%\n'a'("+s+") .", o, 2, api.ErrLong)     // its first token is no term
		}
	}
	looks(t, "f("+ofNodes(1999-20)+",a).", o, "f("+strings.ReplaceAll(ofNodes(1999-20), ",", " ")+" a)")
}

// nested is texts that begin a term n levels below the whole.
func nested(n int) []string {
	return []string{
		strings.Repeat("(", n),
		strings.Repeat("f(", n),
		strings.Repeat("f(a,", n-1) + "f(", // behind the comma one begins at the same level
		strings.Repeat("[", n),
		strings.Repeat("[a,", n-1) + "[",
		strings.Repeat("[a|", n-1) + "[",
		strings.Repeat("- ", n),
		strings.Repeat("a,", n),
		strings.Repeat("2 ^ ", n),
		strings.Repeat("1 -(", n/2) + strings.Repeat("(", n%2),
		strings.Repeat("'g'((", n/2) + strings.Repeat("- ", n%2),
		strings.Repeat("[- (a,", n/4) + strings.Repeat("(", n%4),
		strings.Repeat("f(a = b,[c|- ", n/3) + strings.Repeat("- ", n%3),
	}
}

// P13.1: levels: a term begins at level 2000, and none below.
func TestLevels(t *testing.T) {
	o := ops.New()
	begins := []string{"x", "X", "_", "1", "-1", "-9223372036854775808", "0c" + strings.Repeat("0", 32), "'x'", "f(a)", "(a)", "[]", "[a]", "- a", "-"}
	for i := range nested(1) {
		for _, n := range []int{1999, 2000} {
			s := nested(n)[i]
			refuses(t, s, o, len(s), api.ErrForm)
			for _, x := range []string{"x", "X", "-1", "'x'", "[]", "-"} {
				refuses(t, s+x, o, len(s+x), api.ErrForm) // it is not closed
			}
		}
		s := nested(2001)[i]
		for _, x := range begins {
			refuses(t, s+x, o, len(s), api.ErrLong)
			refuses(t, s+x+" x |", o, len(s), api.ErrLong) // ahead of what is met behind it
			refuses(t, "f( | "+s+x, o, 3, api.ErrForm)     // behind what is met ahead of it
		}
		for _, x := range []string{"", "  ", "|", ")", "]", ",", " .", "| x"} { // no term begins there, at whatever level
			if strings.HasSuffix(s, "- ") || strings.HasSuffix(s, "[") && x == "]" {
				continue // none need begin there
			}
			refuses(t, s+x, o, len(s)+len(x)-len(strings.TrimLeft(x, " ")), api.ErrForm)
		}
		if deeper := nested(3000)[i]; strings.HasPrefix(deeper, s) {
			refuses(t, deeper+"x", o, len(s), api.ErrLong)
		}
	}
	close := func(n int) string { return strings.Repeat("(", n) + "x" + strings.Repeat(")", n) + "." }
	looks(t, close(1999), o, "x")
	looks(t, close(2000), o, "x")
	refuses(t, close(2001), o, 2001, api.ErrLong)
	looks(t, "x - "+close(1999), o, "-(x x)")
	refuses(t, "x - "+close(2000), o, 2004, api.ErrLong)
	looks(t, "- "+close(1999), o, "-(x)")
	looks(t, close(2000)[:4001]+" - "+close(1999), o, "-(x x)") // a left side is no level below
	refuses(t, strings.Repeat("[a|", 2000)+"(x", o, 6001, api.ErrLong)
	refuses(t, strings.Repeat("[a|", 1999)+"(x", o, 5999, api.ErrForm)
	for _, text := range []string{"(", "[", "f(", "- ", "[a|", "a,", "1-", "a:-", `\+`, "X^"} { // it ends, however long
		s := strings.Repeat(text, api.MaxText/len(text))
		if x, _, _, e := read.Term(s, o); x.Kind != 0 || e == api.OK {
			t.Errorf("Term(%s): %d", short(s), e)
		}
	}
	refuses(t, strings.Repeat("1-", 30000)+"1.", o, 0, api.ErrLong)
	refuses(t, " "+strings.Repeat("(", 1)+strings.Repeat("a,", 30000), o, 1+1+2*2000, api.ErrLong)
}

// all: s is to be just these clauses.
func all(t *testing.T, s string, o *ops.Table, want ...read.Clause) {
	t.Helper()
	l, at, e := read.All(s, o)
	same := len(l) == len(want)
	for i := range min(len(l), len(want)) {
		same = same && l[i].At == want[i].At && slices.Equal(l[i].Names, want[i].Names) && reflect.DeepEqual(l[i].Term, want[i].Term)
	}
	if !same || at != 0 || e != api.OK {
		t.Errorf("All(%s) = %v, %d, %d; want %v", short(s), l, at, e, want)
	}
}

// P13.2: clause by clause, each with its place and its own variables.
func TestClauses(t *testing.T) {
	o := ops.New()
	for _, s := range []string{"", " ", " % nothing", "/* a. */\n"} {
		all(t, s, o)
		all(t, s, nil)
	}
	all(t, "a.", o, read.Clause{Term: atom("a")})
	all(t, "a.", nil, read.Clause{Term: atom("a")})
	all(t, " \n(X) .%", o, read.Clause{Term: variable(0), Names: []string{"X"}, At: 2})
	all(t, " a. p(X, Y) :- q(Y), r(_).\n%\nb(Y).", o,
		read.Clause{Term: atom("a"), At: 1},
		read.Clause{Term: comp(":-", comp("p", variable(0), variable(1)), comp(",", comp("q", variable(1)), comp("r", variable(2)))), Names: []string{"X", "Y", "_"}, At: 4},
		read.Clause{Term: comp("b", variable(0)), Names: []string{"Y"}, At: 29})
	all(t, "_. _.%\nZ.\tf(Z,_).\n(a). -1. 'q' . - 1 . ", o,
		read.Clause{Term: variable(0), Names: []string{"_"}},
		read.Clause{Term: variable(0), Names: []string{"_"}, At: 3},
		read.Clause{Term: variable(0), Names: []string{"Z"}, At: 7},
		read.Clause{Term: comp("f", variable(0), variable(1)), Names: []string{"Z", "_"}, At: 10},
		read.Clause{Term: atom("a"), At: 18},
		read.Clause{Term: whole(-1), At: 23},
		read.Clause{Term: atom("q"), At: 27},
		read.Clause{Term: comp("-", whole(1)), At: 33})
	all(t, "[]. [a].", o, read.Clause{Term: atom("[]")}, read.Clause{Term: pair(atom("a"), atom("[]")), At: 4})
}

// P13.2: the first clause that is none ends it all.
func TestClausesErrors(t *testing.T) {
	o := ops.New()
	many := "[" + strings.Repeat("a,", 499) + "a]"
	for _, x := range []struct {
		s  string
		at int
		e  api.Errno
	}{{"a", 1, api.ErrForm}, {"a. b", 4, api.ErrForm}, {"a. b ", 5, api.ErrForm}, {"a. b c. d.", 5, api.ErrForm}, {"a. 'x", 3, api.ErrForm}, {"a. " + many + ".", 3, api.ErrLong}, {"a. . b.", 3, api.ErrForm}, {". a.", 0, api.ErrForm}, {"a. b) . c.", 4, api.ErrForm},
		{"a. f(b. c.", 6, api.ErrForm}, {"a = . b.", 4, api.ErrForm}, {"a. b. c. d(e", 12, api.ErrForm}, {"a. " + many + ". b c.", 3, api.ErrLong}, {"a. b c. " + many + ".", 5, api.ErrForm}, {"a. " + many + " b. c.", 4 + len(many), api.ErrForm},
		{"a. 1-9223372036854775808. b", 5, api.ErrForm}, {"a. b c. 99999999999999999999", 8, api.ErrOver}, {"a. " + strings.Repeat("(", 2001) + "x. b c.", 2004, api.ErrLong}, {"a. b. " + many + ". " + strings.Repeat("(", 2001) + "x.", 6, api.ErrLong}, {"a. f(X. Y).", 6, api.ErrForm}} {
		if l, at, e := read.All(x.s, o); l != nil || at != x.at || e != x.e {
			t.Errorf("All(%s) = %v, %d, %d; want error %d at %d", short(x.s), l, at, e, x.e, x.at)
		}
	}
	s := strings.Repeat("a.\n", api.MaxText/3)
	if l, at, e := read.All(s, o); len(l) != api.MaxText/3 || at != 0 || e != api.OK || l[len(l)-1].At != 3*(len(l)-1) {
		t.Error(len(l), at, e)
	}
	if l, at, e := read.All(s+"b", o); l != nil || at != len(s)+1 || e != api.ErrForm {
		t.Error(len(l), at, e)
	}
}
