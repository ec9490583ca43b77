package term_test

import (
	"fmt"
	"math"
	"reflect"
	"strings"
	"testing"

	"elenchus/api"
	"elenchus/term"
)

func v(n int64) api.Term          { return api.Term{Kind: api.TVar, Int: n} }
func atom(name string) api.Term   { return api.Term{Kind: api.TAtom, Name: name} }
func num(n int64) api.Term        { return api.Term{Kind: api.TInt, Int: n} }
func cpx(re, im uint64) api.Term  { return api.Term{Kind: api.TCpx, Re: re, Im: im} }
func nothing(t api.Term) bool     { return reflect.DeepEqual(t, api.Term{}) }
func long(n int) string           { return strings.Repeat("n", n) }
func same(a, b api.Term) bool     { return key(a) == key(b) }
func list(l ...api.Term) api.Term { return listTo(atom("[]"), l...) }
func comp(name string, args ...api.Term) api.Term {
	return api.Term{Kind: api.TComp, Name: name, Args: args}
}

func listTo(tail api.Term, l ...api.Term) api.Term {
	for i := len(l) - 1; i >= 0; i-- {
		tail = comp(".", l[i], tail)
	}
	return tail
}

// times is n of t.
func times(n int, t api.Term) []api.Term {
	l := make([]api.Term, n)
	for i := range l {
		l[i] = t
	}
	return l
}

// deepOver is t with so many terms above it.
func deepOver(t api.Term, levels int) api.Term {
	for range levels {
		t = comp("s", t)
	}
	return t
}

// wide is a term of so many nodes (from 1 on), not deep, whose last node is last.
func wide(nodes int, last api.Term) api.Term {
	t, have := last, 1
	for have+api.MaxArity <= nodes {
		t, have = comp("w", append(times(api.MaxArity-1, atom("x")), t)...), have+api.MaxArity
	}
	return deepOver(t, nodes-have)
}

// ring is a term that stands in itself.
func ring() api.Term {
	args := make([]api.Term, 1)
	args[0] = comp("r", args...)
	args[0].Args = args
	return args[0]
}

// doubled is a term of 2^levels - 1 nodes, each level laid but once.
func doubled(levels int) api.Term {
	t := v(1)
	for range levels - 1 {
		t = comp("d", t, t)
	}
	return t
}

// key is a text that two terms share just where they are one: recursion beside the package's stack.
func key(t api.Term) string {
	switch t.Kind {
	case api.TVar:
		return fmt.Sprint("v", t.Int)
	case api.TAtom:
		return fmt.Sprintf("%q", t.Name)
	case api.TInt:
		return fmt.Sprint(t.Int)
	case api.TCpx:
		return fmt.Sprint("c", t.Re, "i", t.Im)
	case api.TComp:
		s := fmt.Sprintf("%q(", t.Name)
		for _, x := range t.Args {
			s += key(x) + ","
		}
		return s + ")"
	}
	return "?"
}

// varsOf is the numbers of t's variables, as they are met; numbers holds those that were met ahead.
func varsOf(t api.Term, numbers []int64) []int64 {
	if t.Kind == api.TComp {
		for _, x := range t.Args {
			numbers = varsOf(x, numbers)
		}
	}
	if t.Kind != api.TVar {
		return numbers
	}
	for _, n := range numbers {
		if n == t.Int {
			return numbers
		}
	}
	return append(numbers, t.Int)
}

// replaced is t with what at tells for its variables.
func replaced(t api.Term, at func(n int64) api.Term) api.Term {
	switch t.Kind {
	case api.TVar:
		return at(t.Int)
	case api.TComp:
		args := make([]api.Term, len(t.Args))
		for i, x := range t.Args {
			args[i] = replaced(x, at)
		}
		t.Args = args
	}
	return t
}

// renamed is t, its variables numbered as they are met.
func renamed(t api.Term) api.Term {
	numbers := varsOf(t, nil)
	return replaced(t, func(n int64) api.Term {
		for i, m := range numbers {
			if n == m {
				return v(int64(i))
			}
		}
		panic("a variable that was not met")
	})
}

// size is how many nodes t has, and how deep it is.
func size(t api.Term) (int, int) {
	nodes, deepest := 1, 0
	if t.Kind == api.TComp {
		for _, x := range t.Args {
			n, d := size(x)
			nodes, deepest = nodes+n, max(deepest, d)
		}
	}
	return nodes, deepest + 1
}

// dirty is t, each node with something in all that its kind gives no meaning.
func dirty(t api.Term) api.Term {
	d := api.Term{Kind: t.Kind, Name: long(api.MaxName + 1), Int: -7, Re: 8, Im: 9, Args: times(api.MaxArity+1, api.Term{Kind: -1})}
	switch t.Kind {
	case api.TVar, api.TInt:
		d.Int = t.Int
	case api.TAtom:
		d.Name = t.Name
	case api.TCpx:
		d.Re, d.Im = t.Re, t.Im
	case api.TComp:
		d.Name, d.Args = t.Name, make([]api.Term, len(t.Args))
		for i, x := range t.Args {
			d.Args[i] = dirty(x)
		}
	}
	return d
}

// leaves: terms of one node, of each kind.
func leaves() []api.Term {
	return []api.Term{v(0), v(1), v(7), atom("a"), atom(""), atom("[]"), num(0), num(1), num(-7), cpx(0, 0), cpx(1, 0), cpx(0, 1)}
}

// terms: such, and terms made of them.
func terms() []api.Term {
	l := leaves()
	for _, x := range leaves() {
		l = append(l, comp("f", x), comp("[]", x), list(x), deepOver(x, 3))
		for _, y := range leaves() {
			l = append(l, comp("f", x, y), listTo(y, x))
		}
		for _, y := range []api.Term{v(0), v(1), v(7)} {
			l = append(l, comp("f", x, comp("g", y, v(7), x), y), comp("g", comp("f", y), x))
		}
	}
	return append(l, comp("f", times(api.MaxArity, v(3))...), deepOver(v(4), api.MaxDepth-1), wide(api.MaxNodes, v(5)),
		v(math.MaxInt64), num(math.MaxInt64), num(math.MinInt64), cpx(math.MaxUint64, 1<<63), atom(long(api.MaxName)), comp(long(api.MaxName), v(2)))
}

// bad: terms that may not be, each by one error.
func bad() map[api.Errno][]api.Term {
	many := comp("f", times(api.MaxArity+1, atom("a"))...)
	wrong := []api.Term{{}, {Kind: -1}, {Kind: 6}, {Kind: math.MaxInt}, {Kind: math.MinInt}, v(-1), v(math.MinInt64), comp("f"), {Kind: api.TComp, Name: "f", Args: []api.Term{}}, {Kind: 0, Name: "a", Args: []api.Term{atom("a")}}}
	tooMuch := []api.Term{many, atom(long(api.MaxName + 1)), comp(long(api.MaxName+1), num(1)), atom(strings.Repeat("é", api.MaxName/2+1)), comp("f", times(1<<16, api.Term{})...)}
	l := map[api.Errno][]api.Term{api.ErrArg: wrong, api.ErrLong: tooMuch}
	for e, roots := range map[api.Errno][]api.Term{api.ErrArg: wrong, api.ErrLong: tooMuch} {
		for _, x := range roots {
			l[e] = append(l[e], comp("f", x), comp("f", v(0), comp("g", atom("a"), x), num(1)), list(num(1), x), listTo(x, num(1)))
		}
	}
	l[api.ErrLong] = append(l[api.ErrLong], ring(), doubled(400), doubled(11), deepOver(atom("a"), api.MaxDepth), wide(api.MaxNodes+1, v(0)), list(times(api.MaxDepth, v(0))...))
	return l
}

// P3.1: terms that may be, with or without what their kinds give no meaning.
func TestMay(t *testing.T) {
	for _, x := range terms() {
		if e := term.May(x); e != api.OK {
			t.Errorf("May(%.80s) = %d", key(x), e)
		}
		if e := term.May(dirty(x)); e != api.OK {
			t.Errorf("May of %.80s, dirty, = %d", key(x), e)
		}
	}
}

// P3.1: terms that may not be, wherever in a term the error stands; nothing else is told of them.
func TestMayRefuses(t *testing.T) {
	good := atom("a")
	for e, l := range bad() {
		for i, x := range l {
			if got := term.May(x); got != e {
				t.Errorf("May of bad term %d of %d = %d", i, e, got)
			}
			if !nothing(term.Plain(x)) || !nothing(term.Rename(x)) || !nothing(term.Apply(x, nil)) || !nothing(term.Apply(x, []api.Term{good})) {
				t.Errorf("bad term %d of %d: Plain, Rename or Apply tells something", i, e)
			}
			if term.Nodes(x) != 0 || term.Depth(x) != 0 || len(term.Vars(x)) != 0 {
				t.Errorf("bad term %d of %d: Nodes %d, Depth %d, Vars %v", i, e, term.Nodes(x), term.Depth(x), term.Vars(x))
			}
			if term.Same(x, x) || term.Same(x, good) || term.Same(good, x) || term.Variant(x, x) || term.Variant(x, good) || term.Variant(good, x) {
				t.Errorf("bad term %d of %d is the Same as, or a Variant of, something", i, e)
			}
		}
	}
}

// P3.1: the bounds, and one more of each.
func TestBounds(t *testing.T) {
	for i, x := range []struct {
		most, over api.Term
	}{
		{atom(long(api.MaxName)), atom(long(api.MaxName + 1))},
		{comp(long(api.MaxName), v(0)), comp(long(api.MaxName+1), v(0))},
		{comp("f", times(api.MaxArity, v(0))...), comp("f", times(api.MaxArity+1, v(0))...)},
		{comp("f", v(0)), comp("f")},
		{deepOver(v(0), api.MaxDepth-1), deepOver(v(0), api.MaxDepth)},
		{list(times(api.MaxDepth-1, v(0))...), list(times(api.MaxDepth, v(0))...)},
		{wide(api.MaxNodes, v(0)), wide(api.MaxNodes+1, v(0))},
		{wide(api.MaxNodes-1, v(0)), wide(api.MaxNodes+api.MaxArity, v(0))},
		{v(0), v(-1)},
	} {
		if e := term.May(x.most); e != api.OK {
			t.Error(i, "most:", e)
		}
		if e := term.May(x.over); e == api.OK {
			t.Error(i, "one more may be")
		}
	}
}

// P3.1: the first error counts, a term's own ahead of its arguments', nodes and depth ahead of what else a node has.
func TestFirstError(t *testing.T) {
	many := comp("f", times(api.MaxArity+1, v(-1))...)
	name := long(api.MaxName + 1)
	for i, x := range []struct {
		t    api.Term
		want api.Errno
	}{
		{comp("f", v(-1), many), api.ErrArg},
		{comp("f", many, v(-1)), api.ErrLong},
		{comp("f", comp("g", num(1), v(-2)), many), api.ErrArg},
		{comp("f", comp("g", num(1), many), v(-2)), api.ErrLong},
		{comp("f", comp("g", v(0)), v(-2), atom(name)), api.ErrArg},
		{comp("f", comp("g", v(0)), atom(name), v(-2)), api.ErrLong},
		{comp(name, v(-1)), api.ErrLong},
		{many, api.ErrLong},
		{comp(name), api.ErrArg}, // ErrArg is listed ahead of ErrLong
		{deepOver(v(-1), api.MaxDepth-1), api.ErrArg},
		{deepOver(v(-1), api.MaxDepth), api.ErrLong},
		{deepOver(comp("f"), api.MaxDepth), api.ErrLong},
		{comp("f", deepOver(v(0), api.MaxDepth), v(-1)), api.ErrLong},
		{comp("f", v(-1), deepOver(v(0), api.MaxDepth)), api.ErrArg},
		{wide(api.MaxNodes, v(-1)), api.ErrArg},
		{wide(api.MaxNodes+1, v(-1)), api.ErrLong},
		{comp("f", wide(api.MaxNodes-1, v(0)), api.Term{}), api.ErrLong},
		{comp("f", wide(api.MaxNodes-2, v(0)), api.Term{}), api.ErrArg},
		{comp("f", wide(api.MaxNodes-2, v(0)), v(0), api.Term{}), api.ErrLong},
		{comp("f", ring(), v(-1)), api.ErrLong},
		{comp("f", v(-1), ring()), api.ErrArg},
	} {
		if e := term.May(x.t); e != x.want {
			t.Errorf("%d: %d; want %d", i, e, x.want)
		}
	}
}

// P3.1: Plain leaves nothing that a kind gives no meaning, and all that it does.
func TestPlain(t *testing.T) {
	for _, x := range terms() {
		if got := term.Plain(x); !reflect.DeepEqual(got, x) {
			t.Errorf("Plain(%.80s) = %.80s", key(x), key(got))
		}
		if got := term.Plain(dirty(x)); !reflect.DeepEqual(got, x) {
			t.Errorf("Plain of %.80s, dirty, = %.80s", key(x), key(got))
		}
	}
	if got := term.Plain(api.Term{Kind: api.TInt, Int: 3, Args: []api.Term{ring()}}); !reflect.DeepEqual(got, num(3)) {
		t.Error("what stands as arguments of an int is told:", key(got))
	}
}

// P3.2: Same, by a text that two terms share just where they are one.
func TestSame(t *testing.T) {
	l := terms()
	keys := make([]string, len(l))
	for i, x := range l {
		keys[i] = key(x)
	}
	for i, a := range l {
		for j, b := range l {
			if got, want := term.Same(a, b), keys[i] == keys[j]; got != want {
				t.Errorf("Same(%.80s, %.80s) = %t", keys[i], keys[j], got)
			}
		}
		if d := dirty(a); !term.Same(a, d) || !term.Same(d, a) {
			t.Errorf("%.80s is not the Same as itself, dirty", keys[i])
		}
	}
}

// P3.2: terms that look like one another, and are none.
func TestNotSame(t *testing.T) {
	for i, x := range [][2]api.Term{
		{v(1), num(1)},
		{num(1), cpx(1, 0)},
		{cpx(1, 0), cpx(0, 1)},
		{cpx(0, 0), cpx(1<<63, 0)}, // noughts of two signs
		{atom("a"), atom("A")},
		{atom("a"), comp("a", v(0))},
		{comp("f", v(0)), comp("g", v(0))},
		{comp("f", v(0)), comp("f", v(0), v(0))},
		{comp("f", comp("g", v(0)), v(1)), comp("f", comp("g", v(0), v(1)))},
		{comp("f", comp("g", v(0)), v(1)), comp("f", comp("g", v(0), v(1)), v(2))},
		{list(num(1)), listTo(v(0), num(1))},
		{wide(api.MaxNodes, num(1)), wide(api.MaxNodes, num(2))},
		{deepOver(num(1), api.MaxDepth-1), deepOver(num(1), api.MaxDepth-2)},
	} {
		if term.Same(x[0], x[1]) || term.Same(x[1], x[0]) {
			t.Error(i, "the Same")
		}
	}
	if nan := cpx(0x7ff8000000000001, 0); !term.Same(nan, nan) {
		t.Error("a part that is no number isn't the Same as itself")
	}
}

// P3.2: Nodes and Depth.
func TestNodesDepth(t *testing.T) {
	for _, x := range terms() {
		nodes, depth := size(x)
		for _, y := range []api.Term{x, dirty(x)} {
			if term.Nodes(y) != nodes || term.Depth(y) != depth {
				t.Errorf("%.80s: Nodes %d, Depth %d; want %d, %d", key(x), term.Nodes(y), term.Depth(y), nodes, depth)
			}
		}
	}
	for i, x := range []struct {
		t            api.Term
		nodes, depth int
	}{
		{v(3), 1, 1},
		{comp("f", atom("a")), 2, 2},
		{comp("f", comp("g", v(1), v(1)), num(1)), 5, 3},
		{comp("f", num(1), comp("g", v(1), v(1)), num(1)), 6, 3},
		{list(num(1), num(2)), 5, 3},
		{deepOver(v(0), api.MaxDepth-1), api.MaxDepth, api.MaxDepth},
		{doubled(10), 1023, 10},
	} {
		if term.Nodes(x.t) != x.nodes || term.Depth(x.t) != x.depth {
			t.Error(i, term.Nodes(x.t), term.Depth(x.t))
		}
	}
	if n := term.Nodes(wide(api.MaxNodes, v(0))); n != api.MaxNodes {
		t.Error("as many nodes as may be:", n)
	}
}

// P3.2: Vars, each once, as they are met.
func TestVars(t *testing.T) {
	for _, x := range terms() {
		want := fmt.Sprint(varsOf(x, nil))
		if got := fmt.Sprint(term.Vars(x)); got != want {
			t.Errorf("Vars(%.80s) = %s; want %s", key(x), got, want)
		}
		if got := fmt.Sprint(term.Vars(dirty(x))); got != want {
			t.Errorf("Vars of %.80s, dirty, = %s; want %s", key(x), got, want)
		}
	}
	x := comp("f", v(7), comp("g", v(math.MaxInt64), num(5), v(7), v(0)), v(3), v(0))
	if got := fmt.Sprint(term.Vars(x)); got != "[7 9223372036854775807 0 3]" {
		t.Error(got)
	}
}

// P3.2: Rename numbers them in that order.
func TestRename(t *testing.T) {
	for _, x := range terms() {
		want := renamed(x)
		if got := term.Rename(x); !reflect.DeepEqual(got, want) {
			t.Errorf("Rename(%.80s) = %.80s", key(x), key(got))
		}
		if got := term.Rename(dirty(x)); !reflect.DeepEqual(got, want) {
			t.Errorf("Rename of %.80s, dirty, = %.80s", key(x), key(got))
		}
	}
	if got := term.Rename(comp("f", v(7), v(3), v(7))); !same(got, comp("f", v(0), v(1), v(0))) {
		t.Error(key(got))
	}
	if got := term.Rename(comp("f", v(1), comp("g", v(0)), v(1))); !same(got, comp("f", v(0), comp("g", v(1)), v(0))) {
		t.Error("numbers that are taken anew:", key(got))
	}
}

// P3.2: as many variables as a term may have.
func TestManyVars(t *testing.T) {
	var args []api.Term
	for i := range 94 {
		var l []api.Term
		for j := range api.MaxArity {
			l = append(l, v(math.MaxInt64-int64(i*api.MaxArity+j)))
		}
		args = append(args, comp("f", l...))
	}
	x := comp("g", comp("g", args[:19]...), comp("g", args[19:38]...), comp("g", args[38:57]...), comp("g", args[57:76]...), comp("g", args[76:]...))
	l := term.Vars(x)
	if len(l) != 1880 || l[0] != math.MaxInt64 || l[1879] != math.MaxInt64-1879 {
		t.Fatal(len(l))
	}
	for i, n := range term.Vars(term.Rename(x)) {
		if n != int64(i) {
			t.Fatal("renamed:", i, n)
		}
	}
}

// P3.2: Variant, by terms renamed otherwise.
func TestVariant(t *testing.T) {
	l := terms()
	keys := make([]string, len(l))
	for i, x := range l {
		keys[i] = key(renamed(x))
	}
	for i, a := range l {
		for j, b := range l {
			if got, want := term.Variant(a, b), keys[i] == keys[j]; got != want {
				t.Errorf("Variant(%.80s, %.80s) = %t", key(a), key(b), got)
			}
		}
		if !term.Variant(a, dirty(a)) {
			t.Errorf("%.80s is no Variant of itself, dirty", key(a))
		}
	}
	x := comp("f", v(7), comp("g", v(3)), v(7))
	for i, y := range []api.Term{comp("f", v(1), comp("g", v(1)), v(1)), comp("f", v(1), comp("g", v(2)), v(2)), comp("f", v(1), comp("g", v(2)), v(3)), comp("f", v(1), comp("g", num(2)), v(1))} {
		if term.Variant(x, y) || term.Variant(y, x) {
			t.Error(i, "a Variant")
		}
	}
}

// P3.3: List, its tail a list's end or another term.
func TestList(t *testing.T) {
	for _, tail := range leaves() {
		if got := term.List(nil, tail); !reflect.DeepEqual(got, tail) {
			t.Errorf("List of none to %s = %s", key(tail), key(got))
		}
		if got := term.List([]api.Term{}, dirty(tail)); !reflect.DeepEqual(got, tail) {
			t.Errorf("List of none to %s, dirty, = %s", key(tail), key(got))
		}
		want := comp(".", num(1), comp(".", comp("f", v(3)), tail))
		if got := term.List([]api.Term{num(1), comp("f", v(3))}, tail); !reflect.DeepEqual(got, want) {
			t.Errorf("List to %s = %s", key(tail), key(got))
		}
		if got := term.List([]api.Term{dirty(num(1)), dirty(comp("f", v(3)))}, dirty(tail)); !reflect.DeepEqual(got, want) {
			t.Errorf("List to %s, dirty, = %s", key(tail), key(got))
		}
	}
	if got := term.List([]api.Term{num(1)}, list(num(2))); !same(got, list(num(1), num(2))) {
		t.Error("a list as the tail:", key(got))
	}
}

// P3.3: a list that may not be is a zero term.
func TestListRefuses(t *testing.T) {
	end := atom("[]")
	for e, l := range bad() {
		for i, x := range l {
			if !nothing(term.List(nil, x)) || !nothing(term.List([]api.Term{x}, end)) || !nothing(term.List([]api.Term{num(1), x, num(2)}, end)) || !nothing(term.List([]api.Term{num(1)}, x)) {
				t.Errorf("a list with bad term %d of %d", i, e)
			}
		}
	}
	most := api.MaxDepth - 1
	if got := term.List(times(most, num(1)), end); !same(got, list(times(most, num(1))...)) {
		t.Error("as many items as may be")
	}
	for i, x := range []api.Term{
		term.List(times(most+1, num(1)), end),
		term.List(times(most, num(1)), comp("f", v(0))),
		term.List(times(most-1, comp("f", v(0), v(0), v(0))), end), // not too deep, but 5 nodes an item
		term.List(times(1<<20, num(1)), end),
		term.List(append(times(most-1, num(1)), deepOver(v(0), 1)), end),
		term.List([]api.Term{deepOver(v(0), api.MaxDepth-1)}, end),
		term.List(nil, api.Term{}),
	} {
		if !nothing(x) {
			t.Error(i, "a list that may not be is told")
		}
	}
	for i, x := range []api.Term{
		term.List(append(times(most-2, num(1)), deepOver(v(0), 1)), end),
		term.List([]api.Term{deepOver(v(0), api.MaxDepth-2)}, end),
		term.List(times(most-1, comp("f", v(0), v(0))), end),
		term.List(times(most-1, num(1)), comp("f", v(0))),
	} {
		if nothing(x) {
			t.Error(i, "a list that may be is not told")
		}
	}
}

// P3.3: Items of lists that end.
func TestItems(t *testing.T) {
	if l, ok := term.Items(atom("[]")); !ok || len(l) != 0 {
		t.Error("of none:", l, ok)
	}
	want := []api.Term{num(1), list(v(2)), comp(".", v(3)), atom("[]")}
	for _, x := range []api.Term{list(want...), dirty(list(want...))} {
		if l, ok := term.Items(x); !ok || !reflect.DeepEqual(l, want) {
			t.Error(l, ok)
		}
	}
	if l, ok := term.Items(list(times(api.MaxDepth-1, v(0))...)); !ok || len(l) != api.MaxDepth-1 {
		t.Error("as many as may be:", len(l), ok)
	}
}

// P3.3: terms that are no list, or none that ends in `[]`, or that may not be.
func TestItemsRefuses(t *testing.T) {
	no := []api.Term{v(0), num(0), cpx(0, 0), atom("."), atom("a"), atom(""), comp("f", num(1), atom("[]")), comp(".", num(1)), comp(".", num(1), atom("[]"), atom("[]")), comp("[]", v(0)),
		listTo(v(0), num(1)), listTo(atom("a"), num(1)), listTo(num(0), num(1), num(2)), listTo(comp("[]", v(0)), num(1)), listTo(comp(".", v(0)), num(1)), {Kind: api.TInt, Name: "[]"}}
	for _, l := range bad() {
		for _, x := range l {
			no = append(no, x, list(x), list(num(1), x))
		}
	}
	for i, x := range no {
		if l, ok := term.Items(x); ok || l != nil {
			t.Errorf("%d: Items = %d terms, %t", i, len(l), ok)
		}
	}
}

// P3.3: Apply replaces the variables that are places of the list, and them alone, once.
func TestApply(t *testing.T) {
	of := []api.Term{v(1), comp("f", v(0), v(9)), v(2), dirty(comp("g", num(4)))}
	at := func(n int64) api.Term {
		if n < int64(len(of)) {
			return of[n]
		}
		return v(n)
	}
	l := append(terms()[:len(leaves())], comp("h", v(0), v(1), v(2), v(3), v(4), v(0)), comp("h", comp("h", v(3)), comp("h", v(1), num(0)), v(math.MaxInt64)), list(v(0), v(1)), listTo(v(1), num(0)))
	for _, x := range l {
		want := replaced(x, at)
		for _, y := range []api.Term{x, dirty(x)} {
			got := term.Apply(y, of)
			if !same(got, want) || !reflect.DeepEqual(got, term.Plain(got)) {
				t.Errorf("Apply(%s) = %s; want %s", key(x), key(got), key(want))
			}
		}
	}
	for _, x := range terms() {
		for i, got := range []api.Term{term.Apply(x, nil), term.Apply(x, []api.Term{}), term.Apply(x, []api.Term{v(0), v(1)}), term.Apply(dirty(x), []api.Term{v(0)})} {
			if !reflect.DeepEqual(got, x) {
				t.Errorf("%d: %.80s becomes %.80s", i, key(x), key(got))
			}
		}
	}
}

// P3.3: what t does not name may be anything; what it names may not.
func TestApplyRefuses(t *testing.T) {
	for e, l := range bad() {
		for i, x := range l {
			of := []api.Term{num(1), x, num(2)}
			if !nothing(term.Apply(v(1), of)) || !nothing(term.Apply(comp("f", v(0), comp("g", v(1))), of)) {
				t.Errorf("bad term %d of %d is told", i, e)
			}
			if got := term.Apply(comp("f", v(0), v(2), v(3)), of); !same(got, comp("f", num(1), num(2), v(3))) {
				t.Errorf("bad term %d of %d, which is not named: %s", i, e, key(got))
			}
		}
	}
}

// P3.3: what comes of Apply may be as deep and have as many nodes as a term may, not more.
func TestApplyBounds(t *testing.T) {
	for i, x := range []struct {
		t, of api.Term
		may   bool
	}{
		{v(0), deepOver(v(0), api.MaxDepth-1), true},
		{comp("f", v(0)), deepOver(v(0), api.MaxDepth-1), false},
		{comp("f", v(0)), deepOver(v(0), api.MaxDepth-2), true},
		{deepOver(v(0), api.MaxDepth-1), num(1), true},
		{deepOver(v(0), api.MaxDepth-1), comp("f", num(1)), false},
		{v(0), wide(api.MaxNodes, v(0)), true},
		{comp("f", v(0)), wide(api.MaxNodes, v(0)), false},
		{comp("f", v(0)), wide(api.MaxNodes-1, v(0)), true},
		{comp("f", v(0), v(0)), wide(1000, v(0)), false},
		{comp("f", v(0), v(0)), wide(999, v(0)), true},
		{wide(api.MaxNodes, v(0)), num(1), true},
		{wide(api.MaxNodes, v(0)), comp("f", num(1)), false},
		{replaced(comp("f", times(api.MaxArity, comp("f", times(api.MaxArity, v(1))...))...), func(int64) api.Term { return v(0) }), wide(api.MaxNodes, v(0)), false},
	} {
		got := term.Apply(x.t, []api.Term{x.of})
		if x.may && !same(got, replaced(x.t, func(int64) api.Term { return x.of })) || !x.may && !nothing(got) {
			t.Errorf("%d: %.80s", i, key(got))
		}
	}
}

// scribble writes over all that t's lists hold, and over what lies behind them.
func scribble(t api.Term) {
	l := t.Args[:cap(t.Args)]
	for i := range l {
		scribble(l[i])
		l[i] = api.Term{Kind: 99, Name: "scribbled"}
	}
}

// R2: what is handed in is not changed, what is told is new memory, and no two of its lists share any.
func TestMemory(t *testing.T) {
	spare := append(make([]api.Term, 0, 9), v(0), comp("g", v(7), v(1)), list(v(0), num(3)))
	x := comp("f", spare...)
	of := append(make([]api.Term, 0, 9), x, comp("h", v(1)))
	xWas, ofWas := key(x), key(comp("of", of...))
	items, _ := term.Items(list(x, x, comp("h", x)))
	told := append([]api.Term{term.Plain(x), term.Rename(x), term.Apply(x, of), term.Apply(v(0), of), term.Apply(comp("f", v(0), v(0), v(1)), of), term.List(nil, x), term.List(of, x), term.List([]api.Term{x, x}, x)}, items...)
	was := make([]string, len(told))
	for i, y := range told {
		was[i] = key(y)
	}
	vars := term.Vars(x)
	clear(vars[:cap(vars)])
	if got := fmt.Sprint(term.Vars(x)); got != "[0 7 1]" {
		t.Error("Vars:", got)
	}
	for i, y := range told {
		scribble(y)
		for j := i + 1; j < len(told); j++ {
			if key(told[j]) != was[j] {
				t.Fatal("answers", i, "and", j, "share memory")
			}
		}
	}
	if key(x) != xWas || key(comp("of", of...)) != ofWas {
		t.Error("what was handed in is changed:", key(x))
	}
	for i, y := range append(spare[3:9:9], of[2:9:9]...) {
		if !nothing(y) {
			t.Error("something is written behind a list:", i)
		}
	}
}

// R2: an answer's arguments are lists of their own, even where they were one.
func TestOwnLists(t *testing.T) {
	for i, x := range []api.Term{term.Plain(doubled(4)), term.Rename(doubled(4)), term.Apply(doubled(4), []api.Term{v(0), comp("f", num(1))}), term.List([]api.Term{doubled(3), doubled(3)}, doubled(3))} {
		want := key(x.Args[1])
		scribble(x.Args[0])
		if got := key(x.Args[1]); got != want {
			t.Errorf("%d: %s becomes %s", i, want, got)
		}
	}
	items, _ := term.Items(list(doubled(3), doubled(3)))
	want := key(items[1])
	scribble(items[0])
	if got := key(items[1]); got != want {
		t.Errorf("Items: %s becomes %s", want, got)
	}
}

// P3.4: Variant goes both ways, and goes on; Rename twice is Rename once, and a Variant.
func TestVariantFollows(t *testing.T) {
	var l []api.Term
	for a := range int64(3) {
		for b := range int64(3) {
			for c := range int64(3) {
				l = append(l, comp("f", v(a), comp("g", v(b)), v(c)), comp("f", v(a), num(b), v(c)))
			}
		}
	}
	for _, a := range l {
		for _, b := range l {
			if term.Variant(a, b) != term.Variant(b, a) {
				t.Errorf("one way alone: %s, %s", key(a), key(b))
			}
			for _, c := range l {
				if term.Variant(a, b) && term.Variant(b, c) && !term.Variant(a, c) {
					t.Errorf("does not go on: %s, %s, %s", key(a), key(b), key(c))
				}
			}
		}
	}
	for _, x := range append(terms(), l...) {
		once := term.Rename(x)
		if twice := term.Rename(once); !reflect.DeepEqual(once, twice) {
			t.Errorf("Rename of %.80s, and of that: %.80s", key(once), key(twice))
		}
		if !term.Variant(x, once) || !term.Variant(once, x) || !term.Variant(x, x) {
			t.Errorf("%.80s is no Variant of its Rename, or of itself", key(x))
		}
	}
}

// P3.4: Items of List are the items.
func TestItemsOfList(t *testing.T) {
	all := leaves()
	for _, x := range terms() {
		if nodes, depth := size(x); nodes < api.MaxNodes-2 && depth < api.MaxDepth {
			all = append(all, x)
		}
	}
	for from := range all {
		for _, n := range []int{0, 1, 2, 40} {
			want := all[from:min(from+n, len(all))]
			l, ok := term.Items(term.List(want, atom("[]")))
			if !ok || len(l) != len(want) {
				t.Fatal(from, n, len(l), ok)
			}
			for i := range l {
				if !reflect.DeepEqual(l[i], want[i]) {
					t.Errorf("%.80s becomes %.80s", key(want[i]), key(l[i]))
				}
			}
		}
	}
}
