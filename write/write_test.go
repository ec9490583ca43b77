package write_test

import (
	"math"
	"strings"
	"testing"

	"elenchus/api"
	"elenchus/ops"
	"elenchus/write"
)

// The terms, spelt out.
func atom(name string) api.Term         { return api.Term{Kind: api.TAtom, Name: name} }
func variable(n int64) api.Term         { return api.Term{Kind: api.TVar, Int: n} }
func whole(n int64) api.Term            { return api.Term{Kind: api.TInt, Int: n} }
func cpx(re, im uint64) api.Term        { return api.Term{Kind: api.TCpx, Re: re, Im: im} }
func pair(item, tail api.Term) api.Term { return comp(".", item, tail) }
func comp(name string, args ...api.Term) api.Term {
	return api.Term{Kind: api.TComp, Name: name, Args: args}
}

// list is the list of these items that ends in tail.
func list(tail api.Term, items ...api.Term) api.Term {
	for i := len(items) - 1; i >= 0; i-- {
		tail = pair(items[i], tail)
	}
	return tail
}

var end = atom("[]")

// writes: x is to have this text, by Ops too, where there are no operators.
func writes(t *testing.T, x api.Term, want string) {
	t.Helper()
	if got := write.Canonical(x); got != want {
		t.Errorf("Canonical(%.200v) = %.200q; want %.200q", x, got, want)
	}
	writesOps(t, nil, x, want)
	writesOps(t, &ops.Table{}, x, want)
}

// writesPlain: x is to have this text without quotes.
func writesPlain(t *testing.T, x api.Term, want string) {
	t.Helper()
	if got := write.Plain(x); got != want {
		t.Errorf("Plain(%.200v) = %.200q; want %.200q", x, got, want)
	}
}

// writesOps: x is to have this text by the operators of o.
func writesOps(t *testing.T, o *ops.Table, x api.Term, want string) {
	t.Helper()
	if got := write.Ops(x, o); got != want {
		t.Errorf("Ops(%.200v) = %.200q; want %.200q", x, got, want)
	}
}

// P14.1: the chapter's example, and each kind by itself.
func TestCanonical(t *testing.T) {
	writes(t, comp("+", whole(1), comp("f", list(end, atom("a")), atom("B"))), "+(1,f([a],'B'))")
	writes(t, variable(0), "_0")
	writes(t, variable(math.MaxInt64), "_9223372036854775807")
	writes(t, whole(0), "0")
	writes(t, whole(-7), "-7")
	writes(t, whole(math.MaxInt64), "9223372036854775807")
	writes(t, whole(math.MinInt64), "-9223372036854775808")
	writes(t, cpx(0x3ff0000000000000, 0xbff), "0c3ff00000000000000000000000000bff")
	writes(t, cpx(0, math.MaxUint64), "0c"+strings.Repeat("0", 16)+strings.Repeat("f", 16))
	writes(t, comp("f", variable(2), whole(-1), cpx(0, 0)), "f(_2,-1,0c"+strings.Repeat("0", 32)+")")
	writes(t, comp("f", comp("g", comp("h", atom("x")))), "f(g(h(x)))")
}

// P14.1: names, of atoms and of compounds.
func TestCanonicalNames(t *testing.T) {
	for name, want := range map[string]string{"a": "a", "aB_1": "aB_1", "+": "+", ":-": ":-", "!": "!", ";": ";", "is": "is", "": "''", "A b": "'A b'", "X": "'X'", "_": "'_'", "1": "'1'", ",": "','", "|": "'|'", "{}": "'{}'", ".": "'.'", "..": "..",
		"it's": `'it\'s'`, `a\b`: `'a\\b'`, "a\nb": `'a\nb'`, "'": `'\''`, "(": "'('", "/*": "'/*'", "\x00\xff": "'\x00\xff'"} {
		writes(t, atom(name), want)
		writes(t, comp(name, atom(name)), want+"("+want+")")
		writes(t, comp(name, whole(1), atom(name), whole(3)), want+"(1,"+want+",3)")
	}
	writes(t, end, "[]")
	writes(t, comp("[]", atom("a")), "'[]'(a)")
	writes(t, comp("[]", end, end), "'[]'([],[])")
	long := strings.Repeat("'", api.MaxName)
	writes(t, comp(long, atom(long)), "'"+strings.Repeat(`\'`, api.MaxName)+"'('"+strings.Repeat(`\'`, api.MaxName)+"')")
}

// P14.1: lists, and what is none.
func TestCanonicalLists(t *testing.T) {
	a, b, c := atom("a"), atom("b"), atom("c")
	writes(t, list(end, a), "[a]")
	writes(t, list(end, a, b, c), "[a,b,c]")
	writes(t, list(b, a), "[a|b]")
	writes(t, list(variable(3), a, b), "[a,b|_3]")
	writes(t, list(whole(1), a, b), "[a,b|1]")
	writes(t, list(end, list(end, a), end, list(c, b)), "[[a],[],[b|c]]")
	writes(t, list(comp("[]", a), b), "[b|'[]'(a)]")
	writes(t, list(comp(".", a), b), "[b|'.'(a)]")
	writes(t, list(atom("."), b), "[b|'.']")
	writes(t, list(atom(""), b), "[b|'']")
	writes(t, list(end, atom(","), atom("|")), "[',','|']")
	writes(t, comp(".", a), "'.'(a)")
	writes(t, comp(".", a, b, c), "'.'(a,b,c)")
	writes(t, comp("f", list(end, a), list(b, a)), "f([a],[a|b])")
}

// P14.1: Plain is the same, its names as they are.
func TestPlain(t *testing.T) {
	writesPlain(t, comp("+", whole(1), comp("f", list(end, atom("a")), atom("B"))), "+(1,f([a],B))")
	writesPlain(t, comp("f", variable(3), whole(math.MinInt64), cpx(1, math.MaxUint64)), "f(_3,-9223372036854775808,0c0000000000000001ffffffffffffffff)")
	for _, name := range []string{"a", "is", "-", "[]", "", "A b", "_", "1", ",", "|", ".", "it's", `a\b`, `\n`, "a\nb", "'", "''", "'a'", "(", ")", "[a]", "/*", "\x00\xff", "é", strings.Repeat("'", api.MaxName)} {
		writesPlain(t, atom(name), name)
		writesPlain(t, comp(name, atom(name)), name+"("+name+")")
		writesPlain(t, comp(name, whole(1), atom(name), whole(3)), name+"(1,"+name+",3)")
		writesPlain(t, list(end, atom(name)), "["+name+"]")
		if name != "[]" {
			writesPlain(t, list(atom(name), atom("x"), atom(name)), "[x,"+name+"|"+name+"]")
		}
		writesPlain(t, list(comp(name, atom("b")), atom("x")), "[x|"+name+"(b)]")
	}
	writesPlain(t, comp(",", atom("a"), atom("b")), ",(a,b)")
	writesPlain(t, comp("-", comp("-", whole(1))), "-(-(1))")
	writesPlain(t, comp(".", atom("a"), end, end), ".(a,[],[])")
	writesPlain(t, list(variable(0), list(end, atom("A")), end), "[[A],[]|_0]")
}

// P14.1, P14.2: of a term that may not be there is no text; what its kind gives no meaning counts for nothing.
func TestWrongTerms(t *testing.T) {
	many := make([]api.Term, api.MaxArity+1)
	for i := range many {
		many[i] = whole(int64(i))
	}
	deep, long := atom("x"), end
	for range api.MaxDepth {
		deep, long = comp("f", deep), pair(atom("a"), long)
	}
	for _, x := range []api.Term{{}, {Kind: -1}, {Kind: 6}, variable(-1), comp("f"), comp("f", api.Term{}), list(api.Term{}, atom("a")), list(end, variable(-1)), atom(strings.Repeat("a", api.MaxName+1)), comp(strings.Repeat("a", api.MaxName+1), end), comp("f", many...), deep, long} {
		writes(t, x, "")
		writesPlain(t, x, "")
		writesOps(t, ops.New(), x, "")
	}
	writes(t, comp("f", many[1:]...), "f(1,2,3,4,5,6,7,8,9,10,11,12,13,14,15,16,17,18,19,20)")
	writes(t, deep.Args[0], strings.Repeat("f(", api.MaxDepth-1)+"x"+strings.Repeat(")", api.MaxDepth-1))
	writes(t, long.Args[1], "["+strings.Repeat("a,", api.MaxDepth-2)+"a]")
	all := api.Term{Name: "n", Int: 5, Re: 6, Im: 7, Args: []api.Term{{}}}
	for kind, want := range map[int]string{api.TVar: "_5", api.TAtom: "n", api.TInt: "5", api.TCpx: "0c00000000000000060000000000000007"} {
		all.Kind = kind
		writes(t, all, want)
		writesPlain(t, all, want)
		writesOps(t, ops.New(), all, want)
	}
	for _, kind := range []int{api.TVar, api.TInt, api.TCpx} {
		writes(t, list(api.Term{Kind: kind, Name: "[]"}, atom("a")), "[a|"+write.Canonical(api.Term{Kind: kind})+"]")
		for _, name := range []string{"-", ".", ",", ""} {
			x := api.Term{Kind: kind, Name: name, Args: []api.Term{whole(1), end}}
			writesOps(t, ops.New(), x, write.Canonical(api.Term{Kind: kind}))
			writesOps(t, ops.New(), list(x, atom("a")), "[a|"+write.Canonical(api.Term{Kind: kind})+"]")
		}
	}
	writesOps(t, ops.New(), api.Term{Kind: api.TAtom, Name: "-", Args: []api.Term{whole(1)}}, "(-)")
	writesOps(t, ops.New(), api.Term{Kind: api.TAtom, Name: ".", Args: []api.Term{whole(1), end}}, "'.'")
}
