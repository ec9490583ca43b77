package read_test

import (
	"fmt"
	"math"
	"math/rand"
	"reflect"
	"slices"
	"strings"
	"testing"
	"unsafe"

	"elenchus/api"
	"elenchus/ops"
	"elenchus/read"
	"elenchus/term"
	"elenchus/token"
	"elenchus/write"
)

// someTerm is a term that may be, with names of every kind.
func someTerm(r *rand.Rand, depth int) api.Term {
	names := []string{"a", "f", "-", "+", "=", ":-", `\+`, ",", ";", "!", "|", "[]", ".", "", " ", "A", "_", "1", "it's", "a\nb", `a\b`, "is", "mod", "%", "/*", "(", "'", "''", "\x00\xff", "- ", "-1", "[a]", "{}", strings.Repeat("n", api.MaxName), strings.Repeat("'", api.MaxName)}
	name := names[r.Intn(len(names))]
	kind := r.Intn(9)
	if depth == 0 {
		kind %= 5
	}
	switch kind {
	case 0:
		return variable(int64(r.Intn(4)))
	case 1:
		return whole([]int64{0, 1, -1, 7, math.MaxInt64, math.MinInt64, math.MinInt64 + 1, -7}[r.Intn(8)])
	case 2:
		return cpx(r.Uint64(), r.Uint64())
	case 3, 4:
		return atom(name)
	case 5:
		return pair(someTerm(r, depth-1), someTerm(r, depth-1))
	}
	var args []api.Term
	for range 1 + r.Intn(kind-4) {
		args = append(args, someTerm(r, depth-1))
	}
	return comp(name, args...)
}

// standsAhead tells whether an operator in front is spelt ahead of a name that is one between alone, with its arguments behind it: P13.1's grammar has it that no term begins there.
func standsAhead(t api.Term, o *ops.Table) bool {
	if _, front := o.Prefix(t.Name); front && token.Plain(t.Name) && len(t.Args) == 1 {
		name, args := t.Args[0].Name, len(t.Args[0].Args)
		_, front := o.Prefix(name)
		_, between := o.Infix(name)
		if between && !front && token.Plain(name) && args > 0 && args != 2 {
			return true
		}
	}
	return slices.ContainsFunc(t.Args, func(a api.Term) bool { return standsAhead(a, o) })
}

// comesBack: what is written is to be read as the term.
func comesBack(t *testing.T, s string, o *ops.Table, want api.Term) {
	t.Helper()
	x, names, at, e := read.Term(s+" .", o)
	if !reflect.DeepEqual(x, term.Rename(want)) || len(names) != len(term.Vars(want)) || at != 0 || e != api.OK {
		t.Fatalf("Term(%q) = %s, %q, %d, %d; want %s", s, plain(x), names, at, e, plain(want))
	}
}

// P13.3: read of what is written is the term, whatever operators there are.
func TestWritten(t *testing.T) {
	strange := ops.New()
	for _, o := range []api.Op{op("f", api.FX, 1), op("f", api.XFY, 1200), op("a", api.FY, 1200), op("[a]", api.XFX, 700), op("", api.FY, 1), op("A", api.YFX, 3), op("'", api.FX, 900), op("-", api.YFX, 0), op(":-", api.FY, 1200), op("n", api.XFX, 0)} {
		strange.Set(o)
	}
	tables := []*ops.Table{nil, {}, ops.New(), strange}
	r := rand.New(rand.NewSource(3))
	for range 20000 {
		x := someTerm(r, r.Intn(6))
		for _, o := range tables {
			comesBack(t, write.Canonical(x), o, x)
			if standsAhead(x, o) {
				continue
			}
			comesBack(t, write.Ops(x, o), o, x)
		}
	}
}

// P13.3: of all atoms with few letters, by themselves and with arguments.
func TestWrittenNames(t *testing.T) {
	o := ops.New()
	const bytes = "aA_1-+=.,;!|'\\[](){}% /*\n\x00\xff:"
	var l []string
	for i := range bytes {
		l = append(l, bytes[i:i+1])
		for j := range bytes {
			l = append(l, bytes[i:i+1]+bytes[j:j+1])
		}
	}
	for _, x := range o.All() {
		l = append(l, x.Name)
	}
	for _, name := range append(l, "", "[]", "end_of_file") {
		for _, x := range []api.Term{atom(name), comp(name, atom(name)), comp(name, whole(1)), comp(name, whole(-1), atom(name)), comp("f", atom(name), atom(name)), pair(atom(name), atom(name)), comp(name, comp(name, comp(name, variable(7), variable(7)), variable(5)))} {
			for _, table := range []*ops.Table{nil, o} {
				comesBack(t, write.Canonical(x), table, x)
				comesBack(t, write.Ops(x, table), table, x)
			}
		}
	}
}

// P13.3: of terms that are as great as may be.
func TestWrittenGreatTerms(t *testing.T) {
	deep, long, wide := atom("x"), atom("y"), atom("z")
	for range api.MaxDepth - 1 {
		deep = comp("-", deep)
		long = pair(whole(-1), long)
	}
	for wide = comp("w", slices.Repeat([]api.Term{wide}, 19)...); term.Nodes(wide)+20 <= api.MaxNodes; {
		wide = comp("=", append(slices.Repeat([]api.Term{variable(1)}, 19), wide)...)
	}
	for _, o := range []*ops.Table{nil, ops.New()} {
		for _, x := range []api.Term{deep, long, wide} {
			comesBack(t, write.Canonical(x), o, x)
			comesBack(t, write.Ops(x, o), o, x)
		}
	}
}

// rows is every list of arguments that t has, up to where its memory ends.
func rows(t api.Term) [][]api.Term {
	var l [][]api.Term
	if t.Args != nil {
		l = append(l, t.Args[:cap(t.Args)])
	}
	for _, a := range t.Args {
		l = append(l, rows(a)...)
	}
	return l
}

// R2: what is told shares no memory, and is the caller's own.
func TestMemory(t *testing.T) {
	o := ops.New()
	const s = "p(f(X,Y),[a,X|Y]) :- g(Z), \\+ h((X;Z)), - 1 = [[]]. q([A,B,C],[D]) :- A = f(B,C,D,D)."
	end := strings.Index(s, "q([A") - 1
	l, _, _ := read.All(s, o)
	again, _, _ := read.All(s, o)
	x, names, _, _ := read.Term(s[:end], o)
	y, names2, _, e := read.Term(s[:end], o)
	if e != api.OK || len(l) != 2 {
		t.Fatal(e, len(l))
	}
	mark := api.Term{Kind: 77}
	var met []*api.Term
	for _, c := range append(l, read.Clause{Term: x, Names: names}) {
		for _, row := range rows(c.Term) {
			for i := range row {
				met = append(met, &row[i])
			}
		}
		for i := range c.Names[:cap(c.Names)] {
			c.Names[:cap(c.Names)][i] = "changed"
		}
	}
	for _, p := range met {
		if p.Kind == mark.Kind {
			t.Error("two lists share memory")
		}
		*p = mark
	}
	for _, c := range again {
		if !reflect.DeepEqual(c.Term, term.Rename(c.Term)) || slices.Contains(c.Names, "changed") {
			t.Error("two answers share memory", c)
		}
	}
	if z, _, _, _ := read.Term(s[:end], o); !reflect.DeepEqual(y, z) || slices.Contains(names2, "changed") || !slices.Equal(o.All(), ops.New().All()) {
		t.Error("two answers share memory", y)
	}
}

// R2: the text is not kept by names that are pieces of it.
func TestTextIsNotKept(t *testing.T) {
	s := strings.Repeat(" ", 1000) + "f(Xyz, abc, 'd e', - g, abc + Xyz)."
	x, names, _, _ := read.Term(s, ops.New())
	var check func(t api.Term) []string
	check = func(t api.Term) []string {
		l := []string{t.Name}
		for _, a := range t.Args {
			l = append(l, check(a)...)
		}
		return l
	}
	from := uintptr(unsafe.Pointer(unsafe.StringData(s)))
	for _, name := range append(check(x), names...) {
		if at := uintptr(unsafe.Pointer(unsafe.StringData(name))); name != "" && at >= from && at < from+uintptr(len(s)) {
			t.Errorf("%q is a piece of the text", name)
		}
	}
}

// R3: whatever is handed in, the call ends, and beside an error all else is zero.
func TestAnyBytes(t *testing.T) {
	r := rand.New(rand.NewSource(9))
	for range 30000 {
		b := make([]byte, r.Intn(30))
		for i := range b {
			if b[i] = byte(r.Intn(256)); r.Intn(4) > 0 {
				b[i] = "aX_1-=.,()[]|'% \n:"[r.Intn(18)]
			}
		}
		agrees(t, string(b), ops.New())
		x, names, at, e := read.Term(string(b), ops.New())
		if e != api.OK && (x.Kind != 0 || x.Args != nil || names != nil || at < 0 || at > len(b)) || e == api.OK && (at != 0 || term.May(x) != api.OK) {
			t.Errorf("Term(%q) = %s, %q, %d, %d", b, plain(x), names, at, e)
		}
	}
	for _, l := range [][]string{{"(", ")"}, {"[", "]"}, {"f(", ")"}, {"a,", ""}, {"X-", ""}, {"'-'(", ")"}, {"[a|", "]"}} {
		for _, n := range []int{400, 1900, 5000, 16000} {
			s := fmt.Sprint(strings.Repeat(l[0], n), "a", strings.Repeat(l[1], n), ".")
			agreesOnErrors(t, s)
		}
	}
}

// agreesOnErrors is agrees, of texts whose terms are too great to be held against each other.
func agreesOnErrors(t *testing.T, s string) {
	t.Helper()
	x, _, at, e := read.Term(s, ops.New())
	x2, _, at2, e2 := slowTerm(s, ops.New().All())
	if at != at2 || e != e2 || x.Kind != x2.Kind {
		t.Errorf("Term(%s): %d, %d; want %d, %d", short(s), at, e, at2, e2)
	}
}
