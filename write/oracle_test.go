package write_test

import (
	"fmt"
	"math"
	"math/rand"
	"reflect"
	"slices"
	"strings"
	"testing"
	"unsafe"

	"elenchus/api"
	"elenchus/ops"
	"elenchus/token"
	"elenchus/write"
)

// asItIs is a name without quotes.
func asItIs(name string) string { return name }

// slow is the text of t, put together the plain way: its names by quote, its operators those of l.
func slow(t api.Term, quote func(string) string, l []api.Op) string {
	has := func(places ...int) bool {
		return slices.ContainsFunc(l, func(o api.Op) bool {
			return o.Name == t.Name && slices.Contains(places, o.Type) && (o.Name == "," || token.Plain(o.Name))
		})
	}
	front, between := has(api.FY, api.FX), has(api.XFX, api.XFY, api.YFX)
	name := quote(t.Name)
	var args []string
	for _, a := range t.Args {
		args = append(args, slow(a, quote, l))
	}
	switch {
	case t.Kind == api.TVar:
		return fmt.Sprintf("_%d", t.Int)
	case t.Kind == api.TInt:
		return fmt.Sprint(t.Int)
	case t.Kind == api.TCpx:
		return fmt.Sprintf("0c%016x%016x", t.Re, t.Im)
	case t.Kind == api.TAtom && (front || between) && t.Name != ",":
		return "(" + name + ")"
	case t.Kind == api.TAtom:
		return name
	case t.Name == "." && len(args) == 2:
		return "[" + args[0] + rest(t.Args[1], args[1])
	case between && len(args) == 2 && t.Name == ",":
		return "(" + args[0] + " , " + args[1] + ")"
	case between && len(args) == 2:
		return "(" + args[0] + " " + name + " " + args[1] + ")"
	case front && len(args) == 1:
		return "(" + name + " " + args[0] + ")"
	case name == "[]" && quote("") != "":
		name = "'[]'"
	}
	return name + "(" + strings.Join(args, ",") + ")"
}

// rest is what stands behind an item ahead of a tail that has this text.
func rest(tail api.Term, text string) string {
	switch {
	case tail.Kind == api.TAtom && tail.Name == "[]":
		return "]"
	case tail.Kind == api.TComp && tail.Name == "." && len(tail.Args) == 2:
		return "," + text[1:]
	}
	return "|" + text + "]"
}

// strange is a table of operators whose names are of every sort.
func strange(t *testing.T) *ops.Table {
	return table(t, op("f", api.FX, 1), op("f", api.XFY, 1200), op("a", api.FY, 1200), op("A b", api.XFX, 700), op("A b", api.FY, 700), op(".", api.FY, 200), op("!", api.YFX, 3), op("it's", api.FX, 900), op("-", api.YFX, 0), op("=", api.FX, 1200), op("+", api.FY, 7))
}

// someTerm is a term that may be, with names of every sort.
func someTerm(r *rand.Rand, depth int) api.Term {
	names := []string{"a", "f", "-", "+", "=", ":-", `\+`, "is", "!", ";", ",", "|", "[]", ".", "", "A b", "_", "1", "it's", "a\nb", `a\b`, "(", "{}", "..", strings.Repeat("'", api.MaxName)}
	name := names[r.Intn(len(names))]
	kind := r.Intn(9)
	if depth == 0 {
		kind %= 5
	}
	switch kind {
	case 0:
		return variable(int64(r.Intn(4)))
	case 1:
		return whole([]int64{0, 1, -1, 7, math.MaxInt64, math.MinInt64, math.MinInt64 + 1, int64(r.Uint64())}[r.Intn(8)])
	case 2:
		return cpx(r.Uint64(), r.Uint64())
	case 3, 4:
		return atom(name)
	case 5:
		return pair(someTerm(r, depth-1), someTerm(r, depth-1))
	}
	var args []api.Term
	for range 1 + r.Intn(kind-4) {
		args = append(args, someTerm(r, depth-1))
	}
	return comp(name, args...)
}

// P14.1, P14.2: many terms, by many tables.
func TestManyTerms(t *testing.T) {
	tables := []*ops.Table{ops.New(), strange(t), table(t, op("-", api.FY, 0))}
	r := rand.New(rand.NewSource(14))
	for range 20000 {
		x := someTerm(r, r.Intn(6))
		writes(t, x, slow(x, token.Quote, nil))
		writesPlain(t, x, slow(x, asItIs, nil))
		for _, o := range tables {
			writesOps(t, o, x, slow(x, token.Quote, o.All()))
		}
	}
}

// cloned is t, its arguments in memory of their own.
func cloned(t api.Term) api.Term {
	t.Args = slices.Clone(t.Args)
	for i := range t.Args {
		t.Args[i] = cloned(t.Args[i])
	}
	return t
}

// R2: what is handed in is not changed, nothing behind a list's length is read, and what is told is new memory.
func TestMemory(t *testing.T) {
	o := strange(t)
	before := o.All()
	r := rand.New(rand.NewSource(2))
	for range 2000 {
		x := someTerm(r, 4)
		was := cloned(x)
		texts := []string{write.Canonical(x), write.Plain(x), write.Ops(x, o)}
		if !reflect.DeepEqual(x, was) || !slices.Equal(o.All(), before) {
			t.Fatalf("%v was changed: %v", was, x)
		}
		if again := []string{write.Canonical(x), write.Plain(x), write.Ops(x, o)}; !slices.Equal(texts, again) {
			t.Fatalf("%q, then %q", texts, again)
		}
	}
	row := []api.Term{atom("a"), atom("b"), {Kind: -1}}
	writes(t, comp("f", row[:1]...), "f(a)")
	writes(t, comp(".", row[:2]...), "[a|b]")
	writesOps(t, o, comp("a", row[:1]...), "(a (a))")
	if row[1].Name != "b" || row[2].Kind != -1 {
		t.Error("what lies behind a list's length was written", row)
	}
	name := strings.Repeat("n", 50)
	for _, s := range []string{write.Canonical(atom(name)), write.Plain(atom(name)), write.Ops(atom(name), o)} {
		if s != name || unsafe.StringData(s) == unsafe.StringData(name) {
			t.Errorf("%q is the name itself", s)
		}
	}
}
