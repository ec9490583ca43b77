package write_test

import (
	"fmt"
	"math"
	"math/rand"
	"strings"
	"testing"

	"elenchus/api"
	"elenchus/token"
	"elenchus/write"
)

// The terms, spelt out.
func atom(name string) api.Term         { return api.Term{Kind: api.TAtom, Name: name} }
func variable(n int64) api.Term         { return api.Term{Kind: api.TVar, Int: n} }
func whole(n int64) api.Term            { return api.Term{Kind: api.TInt, Int: n} }
func cpx(re, im uint64) api.Term        { return api.Term{Kind: api.TCpx, Re: re, Im: im} }
func pair(item, tail api.Term) api.Term { return comp(".", item, tail) }
func comp(name string, args ...api.Term) api.Term {
	return api.Term{Kind: api.TComp, Name: name, Args: args}
}

// list is the list of these items that ends in tail.
func list(tail api.Term, items ...api.Term) api.Term {
	for i := len(items) - 1; i >= 0; i-- {
		tail = pair(items[i], tail)
	}
	return tail
}

var end = atom("[]")

// writes: t is to have this text.
func writes(t *testing.T, x api.Term, want string) {
	t.Helper()
	if got := write.Canonical(x); got != want {
		t.Errorf("Canonical(%.200v) = %.200q; want %.200q", x, got, want)
	}
}

// P14.1: the chapter's example, and each kind by itself.
func TestCanonical(t *testing.T) {
	writes(t, comp("+", whole(1), comp("f", list(end, atom("a")), atom("B"))), "+(1,f([a],'B'))")
	writes(t, variable(0), "_0")
	writes(t, variable(math.MaxInt64), "_9223372036854775807")
	writes(t, whole(0), "0")
	writes(t, whole(-7), "-7")
	writes(t, whole(math.MaxInt64), "9223372036854775807")
	writes(t, whole(math.MinInt64), "-9223372036854775808")
	writes(t, cpx(0x3ff0000000000000, 0xbff), "0c3ff00000000000000000000000000bff")
	writes(t, cpx(0, math.MaxUint64), "0c"+strings.Repeat("0", 16)+strings.Repeat("f", 16))
	writes(t, comp("f", variable(2), whole(-1), cpx(0, 0)), "f(_2,-1,0c"+strings.Repeat("0", 32)+")")
	writes(t, comp("f", comp("g", comp("h", atom("x")))), "f(g(h(x)))")
}

// P14.1: names, of atoms and of compounds.
func TestCanonicalNames(t *testing.T) {
	for name, want := range map[string]string{"a": "a", "aB_1": "aB_1", "+": "+", ":-": ":-", "!": "!", ";": ";", "is": "is", "": "''", "A b": "'A b'", "X": "'X'", "_": "'_'", "1": "'1'", ",": "','", "|": "'|'", "{}": "'{}'", ".": "'.'", "..": "..",
		"it's": `'it\'s'`, `a\b`: `'a\\b'`, "a\nb": `'a\nb'`, "'": `'\''`, "(": "'('", "/*": "'/*'", "\x00\xff": "'\x00\xff'"} {
		writes(t, atom(name), want)
		writes(t, comp(name, atom(name)), want+"("+want+")")
		writes(t, comp(name, whole(1), atom(name), whole(3)), want+"(1,"+want+",3)")
	}
	writes(t, end, "[]")
	writes(t, comp("[]", atom("a")), "'[]'(a)")
	writes(t, comp("[]", end, end), "'[]'([],[])")
	long := strings.Repeat("'", api.MaxName)
	writes(t, comp(long, atom(long)), "'"+strings.Repeat(`\'`, api.MaxName)+"'('"+strings.Repeat(`\'`, api.MaxName)+"')")
}

// P14.1: lists, and what is none.
func TestCanonicalLists(t *testing.T) {
	a, b, c := atom("a"), atom("b"), atom("c")
	writes(t, list(end, a), "[a]")
	writes(t, list(end, a, b, c), "[a,b,c]")
	writes(t, list(b, a), "[a|b]")
	writes(t, list(variable(3), a, b), "[a,b|_3]")
	writes(t, list(whole(1), a, b), "[a,b|1]")
	writes(t, list(end, list(end, a), end, list(c, b)), "[[a],[],[b|c]]")
	writes(t, list(comp("[]", a), b), "[b|'[]'(a)]")
	writes(t, list(comp(".", a), b), "[b|'.'(a)]")
	writes(t, list(atom("."), b), "[b|'.']")
	writes(t, list(atom(""), b), "[b|'']")
	writes(t, list(end, atom(","), atom("|")), "[',','|']")
	writes(t, comp(".", a), "'.'(a)")
	writes(t, comp(".", a, b, c), "'.'(a,b,c)")
	writes(t, comp("f", list(end, a), list(b, a)), "f([a],[a|b])")
}

// P14.1: of a term that may not be there is no text; what its kind gives no meaning counts for nothing.
func TestCanonicalWrongTerms(t *testing.T) {
	many := make([]api.Term, api.MaxArity+1)
	for i := range many {
		many[i] = whole(int64(i))
	}
	deep, long := atom("x"), end
	for range api.MaxDepth {
		deep, long = comp("f", deep), pair(atom("a"), long)
	}
	for _, x := range []api.Term{{}, {Kind: -1}, {Kind: 6}, variable(-1), comp("f"), comp("f", api.Term{}), list(api.Term{}, atom("a")), list(end, variable(-1)), atom(strings.Repeat("a", api.MaxName+1)), comp(strings.Repeat("a", api.MaxName+1), end), comp("f", many...), deep, long} {
		writes(t, x, "")
	}
	writes(t, comp("f", many[1:]...), "f(1,2,3,4,5,6,7,8,9,10,11,12,13,14,15,16,17,18,19,20)")
	writes(t, deep.Args[0], strings.Repeat("f(", api.MaxDepth-1)+"x"+strings.Repeat(")", api.MaxDepth-1))
	writes(t, long.Args[1], "["+strings.Repeat("a,", api.MaxDepth-2)+"a]")
	all := api.Term{Name: "n", Int: 5, Re: 6, Im: 7, Args: []api.Term{{}}}
	for kind, want := range map[int]string{api.TVar: "_5", api.TAtom: "n", api.TInt: "5", api.TCpx: "0c00000000000000060000000000000007"} {
		all.Kind = kind
		writes(t, all, want)
	}
	for _, kind := range []int{api.TVar, api.TInt, api.TCpx} {
		writes(t, list(api.Term{Kind: kind, Name: "[]"}, atom("a")), "[a|"+write.Canonical(api.Term{Kind: kind})+"]")
	}
}

// slow is the text of t, put together the plain way.
func slow(t api.Term) string {
	switch t.Kind {
	case api.TVar:
		return fmt.Sprintf("_%d", t.Int)
	case api.TInt:
		return fmt.Sprint(t.Int)
	case api.TCpx:
		return fmt.Sprintf("0c%016x%016x", t.Re, t.Im)
	case api.TAtom:
		return token.Quote(t.Name)
	}
	if t.Name == "." && len(t.Args) == 2 {
		tail := slow(t.Args[1])
		switch {
		case tail == "[]":
			return "[" + slow(t.Args[0]) + "]"
		case tail[0] == '[':
			return "[" + slow(t.Args[0]) + "," + tail[1:]
		}
		return "[" + slow(t.Args[0]) + "|" + tail + "]"
	}
	var l []string
	for _, a := range t.Args {
		l = append(l, slow(a))
	}
	name := token.Quote(t.Name)
	if name == "[]" {
		name = "'[]'"
	}
	return name + "(" + strings.Join(l, ",") + ")"
}

func someTerm(r *rand.Rand, depth int) api.Term {
	name := []string{"a", "f", "+", ",", "[]", ".", "", "A b", "it's"}[r.Intn(9)]
	kind := r.Intn(9)
	if depth == 0 {
		kind %= 5
	}
	switch kind {
	case 0:
		return variable(int64(r.Intn(4)))
	case 1:
		return whole(int64(r.Uint64()))
	case 2:
		return cpx(r.Uint64(), r.Uint64())
	case 3, 4:
		return atom(name)
	case 5:
		return pair(someTerm(r, depth-1), someTerm(r, depth-1))
	}
	var args []api.Term
	for range 1 + r.Intn(kind-4) {
		args = append(args, someTerm(r, depth-1))
	}
	return comp(name, args...)
}

// P14.1: many terms.
func TestCanonicalManyTerms(t *testing.T) {
	r := rand.New(rand.NewSource(14))
	for range 20000 {
		x := someTerm(r, r.Intn(6))
		writes(t, x, slow(x))
	}
}
