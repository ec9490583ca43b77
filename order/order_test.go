package order_test

import (
	"encoding/binary"
	"math"
	"reflect"
	"slices"
	"strings"
	"testing"

	"elenchus/api"
	"elenchus/order"
	"elenchus/term"
)

func v(n int64) api.Term         { return api.Term{Kind: api.TVar, Int: n} }
func atom(name string) api.Term  { return api.Term{Kind: api.TAtom, Name: name} }
func num(n int64) api.Term       { return api.Term{Kind: api.TInt, Int: n} }
func cpx(re, im uint64) api.Term { return api.Term{Kind: api.TCpx, Re: re, Im: im} }
func long(n int) string          { return strings.Repeat("n", n) }
func comp(name string, args ...api.Term) api.Term {
	return api.Term{Kind: api.TComp, Name: name, Args: args}
}

// with is n arguments, the last one last, the others alike.
func with(n int, last api.Term) []api.Term {
	return append(slices.Repeat([]api.Term{num(0)}, n-1), last)
}

// deepOver is t with so many terms above it.
func deepOver(t api.Term, levels int) api.Term {
	for range levels {
		t = comp("s", t)
	}
	return t
}

// wide is a term of so many nodes, not deep, whose last node is last.
func wide(nodes int, last api.Term) api.Term {
	t := last
	for ; nodes > api.MaxArity; nodes -= api.MaxArity {
		t = comp("w", with(api.MaxArity, t)...)
	}
	return deepOver(t, nodes-1)
}

// What may not stand in a term.
var (
	wrongName = long(api.MaxName + 9)
	wrongArgs = slices.Repeat([]api.Term{{Kind: -1}}, api.MaxArity+9)
)

// dirty is t, each node with something in all that its kind gives no meaning: another thing for another mark.
func dirty(t api.Term, mark int) api.Term {
	d := api.Term{Kind: t.Kind, Name: wrongName[mark%9:], Int: -1 - int64(mark), Re: uint64(mark) + 1, Im: uint64(mark) + 1, Args: wrongArgs[mark%9:]}
	switch t.Kind {
	case api.TVar, api.TInt:
		d.Int = t.Int
	case api.TAtom:
		d.Name = t.Name
	case api.TCpx:
		d.Re, d.Im = t.Re, t.Im
	case api.TComp:
		d.Name, d.Args = t.Name, make([]api.Term, len(t.Args))
		for i, x := range t.Args {
			d.Args[i] = dirty(x, mark+i)
		}
	}
	return d
}

// key is bytes that stand in order just as the terms do, written by the document's words; no key is the beginning of another.
func key(t api.Term) string {
	name := func() string {
		s := ""
		for _, b := range []byte(t.Name) {
			s += string([]byte{1, b})
		}
		return s + "\x00"
	}
	word := func(w uint64) string { return string(binary.BigEndian.AppendUint64(nil, w)) }
	switch t.Kind {
	case api.TVar:
		return "1" + word(uint64(t.Int))
	case api.TCpx:
		return "2" + word(t.Re) + word(t.Im)
	case api.TInt:
		return "3" + word(uint64(t.Int)^1<<63)
	case api.TAtom:
		return "4" + name()
	}
	s := "5" + string(rune(len(t.Args))) + name()
	for _, x := range t.Args {
		s += key(x)
	}
	return s
}

// The bits of some parts of complex numbers.
const (
	minus    = 1 << 63
	one      = 0x3ff0000000000000
	infinite = 0x7ff0000000000000
	none     = 0x7ff8000000000001
	all      = math.MaxUint64
)

// ascending: terms, each ahead of those behind it.
func ascending() []api.Term {
	x, y := v(math.MaxInt64), deepOver(num(0), 3)
	return []api.Term{
		v(0), v(1), v(2), v(10), v(1 << 40), v(math.MaxInt64),
		cpx(0, 0), cpx(0, 1), cpx(0, one), cpx(0, minus), cpx(0, all), cpx(1, 0), cpx(1, all), cpx(one, 0), cpx(one, minus),
		cpx(infinite, 0), cpx(none, 0), cpx(minus, 0), cpx(minus, 1), cpx(minus, minus), cpx(minus+one, 0), cpx(all, 0), cpx(all, all-1), cpx(all, all),
		num(math.MinInt64), num(math.MinInt64 + 1), num(-10), num(-2), num(-1), num(0), num(1), num(2), num(10), num(math.MaxInt64 - 1), num(math.MaxInt64),
		atom(""), atom("\x00"), atom("\x00\x00"), atom(" "), atom("."), atom("10"), atom("2"), atom("A"), atom("AA"), atom("B"), atom("[]"), atom("a"), atom("a\x00"), atom("aa"), atom("ab"), atom("b"), atom("ba"),
		atom(long(1)), atom(long(api.MaxName - 1)), atom(long(api.MaxName-1) + "m"), atom(long(api.MaxName)), atom(long(api.MaxName-1) + "o"), atom("z"), atom("\x7f"), atom("é"), atom("世"), atom("\xff"),
		comp("", v(0)), comp("", atom("z")), comp("", comp("", v(0))), comp("", comp("a", v(0))), comp("", comp("", v(0), v(0))), comp("[]", v(0)), comp("a", atom("b")), comp("aa", atom("a")), comp("b", x), comp("b", cpx(0, 0)), comp("b", num(0)), comp("b", y), comp(long(api.MaxName), v(0)), comp("z", v(0)), comp("\xff", y),
		comp("", x, x), comp(".", num(1), atom("[]")), comp(".", num(1), comp(".", num(0), atom("[]"))), comp(".", num(2), atom("[]")), comp("a", v(0), y), comp("a", v(1), v(0)), comp("a", atom("a"), atom("b")), comp("a", atom("b"), atom("a")), comp("a", y, v(0)), comp("a", y, y), comp("b", v(0), v(0)),
		comp("a", v(0), v(0), v(0)), comp("a", v(0), v(0), v(1)), comp("a", v(0), v(0), y), comp("a", v(0), y, v(0)),
		comp("z", with(api.MaxArity-1, y)...), comp("a", with(api.MaxArity, v(0))...), comp("a", with(api.MaxArity, v(1))...), comp("b", with(api.MaxArity, v(0))...),
	}
}

// most: terms of the bounds, each ahead of those behind it.
func most() []api.Term {
	deep, nodes := api.MaxDepth-1, api.MaxNodes
	return []api.Term{deepOver(v(0), deep), deepOver(num(-1), deep), deepOver(num(1), deep), deepOver(atom("a"), deep), wide(nodes, v(0)), wide(nodes, v(1)), wide(nodes, num(0)), wide(nodes, atom("a")), wide(nodes, atom("aa"))}
}

// bad: terms that may not be.
func bad() []api.Term {
	ring := make([]api.Term, 1)
	ring[0] = comp("r", ring...)
	doubled := num(1)
	for range 400 {
		doubled = comp("d", doubled, doubled)
	}
	roots := []api.Term{{}, {Kind: -1}, {Kind: 6}, {Kind: math.MaxInt}, {Kind: math.MinInt}, {Name: "a", Args: []api.Term{atom("a")}}, v(-1), v(math.MinInt64), comp("f"), {Kind: api.TComp, Name: "f", Args: []api.Term{}},
		atom(long(api.MaxName + 1)), comp(long(api.MaxName+1), num(1)), comp("f", with(api.MaxArity+1, v(0))...)}
	l := []api.Term{ring[0], doubled, deepOver(v(0), api.MaxDepth), deepOver(num(1), api.MaxDepth), wide(api.MaxNodes+1, v(0)), wide(api.MaxNodes+1, num(1)), deepOver(api.Term{}, api.MaxDepth-1), wide(api.MaxNodes, v(-1))}
	for _, x := range roots {
		l = append(l, x, comp("a", x), comp("a", v(0), x), comp("a", x, v(0)), comp("z", comp("g", num(1), x), num(1)))
	}
	return l
}

// draws is a row of numbers below n, the same in each run.
func draws(seed uint64) func(n int) int {
	return func(n int) int {
		seed = seed*6364136223846793005 + 1442695040888963407
		return int(seed>>33) % n
	}
}

// drawn is a term of few names and numbers, so that many are alike but for little, or in all.
func drawn(draw func(n int) int, depth int) api.Term {
	name := []string{"", "a", "aa", "b"}[draw(4)]
	switch n := draw(9); {
	case n < 1:
		return v(int64(draw(3)))
	case n < 2:
		return cpx(uint64(draw(2))*minus, uint64(draw(2))*minus)
	case n < 3:
		return num([]int64{math.MinInt64, -1, 0, math.MaxInt64}[draw(4)])
	case n < 4 || depth == 1:
		return atom(name)
	}
	t := comp(name)
	for range draw(3) + 1 {
		t.Args = append(t.Args, drawn(draw, depth-1))
	}
	return t
}

// drawnList is n of them, some with something in fields without meaning.
func drawnList(draw func(n int) int, n, depth int) []api.Term {
	l := make([]api.Term, n)
	for i := range l {
		l[i] = drawn(draw, depth)
		if draw(3) == 0 {
			l[i] = dirty(l[i], i+1)
		}
	}
	return l
}

// compares: Compare is to be want, and, the other way round, its opposite, whatever stands in fields without meaning.
func compares(t *testing.T, a, b api.Term, want int) {
	t.Helper()
	for _, x := range [][2]api.Term{{a, b}, {dirty(a, 1), b}, {a, dirty(b, 1)}, {dirty(a, 1), dirty(b, 9)}} {
		if got := order.Compare(x[0], x[1]); got != want {
			t.Errorf("Compare(%.90q, %.90q) = %d; want %d", key(a), key(b), got, want)
		}
		if got := order.Compare(x[1], x[0]); got != -want {
			t.Errorf("Compare(%.90q, %.90q) = %d; want %d", key(b), key(a), got, -want)
		}
	}
}

// P9.1: each of these terms against each other one, and against itself.
func TestCompare(t *testing.T) {
	l := ascending()
	for i, a := range l {
		compares(t, a, a, 0)
		for _, b := range l[i+1:] {
			compares(t, a, b, -1)
			if key(a) >= key(b) {
				t.Errorf("the keys %q and %q stand in another order than their terms", key(a), key(b))
			}
		}
	}
}

// P9.1: what counts first, where a later thing would tell otherwise.
func TestCompareFirst(t *testing.T) {
	for _, x := range [][2]api.Term{
		{v(math.MaxInt64), cpx(0, 0)},
		{v(9), num(math.MinInt64)},
		{cpx(all, all), num(math.MinInt64)},
		{cpx(one, 0), num(0)},
		{num(math.MaxInt64), atom("")},
		{num(7), atom("7")},
		{atom("z"), comp("a", v(0))},
		{atom(long(api.MaxName)), comp("", v(0))},
		{cpx(0, all), cpx(1, 0)},
		{comp("z", atom("z")), comp("a", v(0), v(0))},
		{comp("z", deepOver(v(0), 9)), comp("", v(0), v(0))},
		{comp("a", atom("z")), comp("b", v(0))},
		{comp("a", atom("z")), comp("aa", v(0))},
		{comp("f", v(0), atom("z")), comp("f", v(1), v(0))},
		{comp("f", comp("z", atom("z")), v(1)), comp("f", comp("a", v(0), v(0)), v(0))},
		{comp("f", v(0), v(1), v(2)), comp("f", v(0), v(2), v(1))},
	} {
		compares(t, x[0], x[1], -1)
	}
}

// P9.1: terms as deep, and of as many nodes, as may be, that differ in their last node alone.
func TestCompareMost(t *testing.T) {
	l := most()
	for i, a := range l {
		compares(t, a, a, 0)
		for _, b := range l[i+1:] {
			compares(t, a, b, -1)
		}
	}
}

// P9.1: a term that may not be is 0 against all, also where the terms differ ahead of what may not be.
func TestCompareRefuses(t *testing.T) {
	l := append(ascending(), most()...)
	for i, x := range bad() {
		for _, y := range slices.Concat(l, bad(), []api.Term{x}) {
			if a, b := order.Compare(x, y), order.Compare(y, x); a != 0 || b != 0 {
				t.Errorf("bad term %d against %.90q: %d, %d", i, key(api.Term{Kind: y.Kind, Name: y.Name}), a, b)
			}
		}
	}
}

// P9.1: many terms, against the order of their keys.
func TestCompareDrawn(t *testing.T) {
	draw := draws(9)
	seen := map[int]int{}
	for range 40000 {
		depth := 1 + draw(4)
		a, b := drawn(draw, depth), drawn(draw, depth)
		want := strings.Compare(key(a), key(b))
		if got := order.Compare(a, b); got != want {
			t.Fatalf("Compare(%q, %q) = %d; want %d", key(a), key(b), got, want)
		}
		seen[want]++
	}
	if seen[0] < 1000 || seen[1] < 1000 || seen[-1] < 1000 {
		t.Error("not all answers were drawn:", seen)
	}
}

// sorts: Sort and Set of l are to be these, each told Plain, and l is to stay as it was.
func sorts(t *testing.T, l, sorted, set []api.Term) {
	t.Helper()
	was := make([]api.Term, len(l))
	for i, x := range l {
		was[i] = term.Plain(x)
	}
	told(t, "Sort", order.Sort(l), sorted)
	told(t, "Set", order.Set(l), set)
	for i, x := range l {
		if !reflect.DeepEqual(term.Plain(x), was[i]) {
			t.Fatal("what was handed in is changed at", i)
		}
	}
}

// told: an answer is to be these terms.
func told(t *testing.T, call string, got, want []api.Term) {
	t.Helper()
	if len(got) != len(want) {
		t.Errorf("%s: %d terms; want %d", call, len(got), len(want))
		return
	}
	for i := range got {
		if !reflect.DeepEqual(got[i], want[i]) {
			t.Errorf("%s: at %d stands %.90q; want %.90q", call, i, key(got[i]), key(want[i]))
			return
		}
	}
}

// byKeys is what Sort and Set are to tell of l, whose terms may all be: each term put where it belongs, one by one.
func byKeys(l []api.Term) (sorted, set []api.Term) {
	var keys []string
	for _, x := range l {
		k := key(x)
		at := 0
		for at < len(keys) && keys[at] <= k {
			at++
		}
		keys, sorted = slices.Insert(keys, at, k), slices.Insert(sorted, at, term.Plain(x))
	}
	for i, x := range sorted {
		if i == 0 || keys[i-1] != keys[i] {
			set = append(set, x)
		}
	}
	return sorted, set
}

// P9.2: the document's example, and lists of none, of one, and of two.
func TestSortFew(t *testing.T) {
	b, fa, x := atom("b"), comp("f", atom("a")), v(0)
	sorts(t, []api.Term{b, fa, num(3), x}, []api.Term{x, num(3), b, fa}, []api.Term{x, num(3), b, fa})
	sorts(t, nil, nil, nil)
	sorts(t, []api.Term{}, nil, nil)
	for i, a := range ascending() {
		sorts(t, []api.Term{a}, []api.Term{a}, []api.Term{a})
		sorts(t, []api.Term{dirty(a, 1)}, []api.Term{a}, []api.Term{a})
		sorts(t, []api.Term{a, a}, []api.Term{a, a}, []api.Term{a})
		for _, b := range ascending()[i+1:] {
			sorts(t, []api.Term{a, b}, []api.Term{a, b}, []api.Term{a, b})
			sorts(t, []api.Term{b, a}, []api.Term{a, b}, []api.Term{a, b})
			sorts(t, []api.Term{b, a, b}, []api.Term{a, b, b}, []api.Term{a, b})
		}
	}
}

// P9.2: lists in order, in the opposite order, and turned round at each place.
func TestSortTurned(t *testing.T) {
	l := ascending()
	sorts(t, l, l, l)
	back := slices.Clone(l)
	slices.Reverse(back)
	sorts(t, back, l, l)
	for at := range l {
		sorts(t, slices.Concat(l[at:], l[:at]), l, l)
		sorts(t, slices.Concat(back[at:], back[:at]), l, l)
	}
	sorts(t, slices.Concat(most()[4:], most()[:4]), most(), most())
}

// P9.2: every list of up to six out of three terms, so every way in which equal ones may stand.
func TestSortAll(t *testing.T) {
	of := []api.Term{comp("f", v(1)), atom("a"), comp("f", v(0))}
	lists := [][]api.Term{nil}
	for range 6 {
		var longer [][]api.Term
		for _, l := range lists {
			for i, x := range of {
				longer = append(longer, append(slices.Clone(l), dirty(x, i+len(l))))
			}
		}
		for _, l := range longer {
			sorted, set := byKeys(l)
			sorts(t, l, sorted, set)
		}
		lists = longer
	}
}

// P9.2: equal terms, which differ in fields without meaning, are all told by Sort, and once by Set, Plain both times.
func TestSortEqual(t *testing.T) {
	for i, x := range append(most(), ascending()...) {
		for _, n := range []int{1, 2, 3, 8, 33}[:2+min(i, 3)] {
			l := make([]api.Term, n)
			for i := range l {
				l[i] = dirty(x, i)
			}
			sorts(t, l, slices.Repeat([]api.Term{x}, n), []api.Term{x})
		}
	}
}

// P9.2: terms that may not be are left out, wherever they stand, also between terms that are equal.
func TestSortRefuses(t *testing.T) {
	no := bad()
	sorts(t, no, nil, nil)
	for i, x := range no {
		sorts(t, []api.Term{x}, nil, nil)
		sorts(t, []api.Term{x, num(2), x, num(1), x, num(2), x}, []api.Term{num(1), num(2), num(2)}, []api.Term{num(1), num(2)})
		sorts(t, []api.Term{v(1), no[(i+1)%len(no)], v(1), x, v(0)}, []api.Term{v(0), v(1), v(1)}, []api.Term{v(0), v(1)})
	}
	var between []api.Term
	for i, x := range slices.Backward(ascending()) {
		between = append(between, no[i%len(no)], x, no[i*7%len(no)])
	}
	sorts(t, between, ascending(), ascending())
}

// P9.2: lists of each length, against terms put in one by one.
func TestSortDrawn(t *testing.T) {
	draw := draws(92)
	for n := range 200 {
		for depth := 1; depth <= 4; depth++ {
			l := drawnList(draw, n, depth)
			sorted, set := byKeys(l)
			sorts(t, l, sorted, set)
		}
	}
}

// P9.2: long lists, which but a sorting by parts would take too long for.
func TestSortLong(t *testing.T) {
	const n = 1 << 17
	for name, at := range map[string]func(i int64) int64{
		"in order":     func(i int64) int64 { return i },
		"opposite":     func(i int64) int64 { return -i },
		"equal":        func(i int64) int64 { return 7 },
		"to and fro":   func(i int64) int64 { return i * (1 - i%2*2) },
		"over and out": func(i int64) int64 { return i * 40503 % 65536 },
	} {
		l := make([]api.Term, n)
		for i := range l {
			l[i] = num(at(int64(i)))
		}
		want := slices.Clone(l)
		slices.SortFunc(want, func(a, b api.Term) int {
			if a.Int < b.Int {
				return -1
			}
			return min(1, int(a.Int-b.Int))
		})
		t.Log(name)
		told(t, "Sort", order.Sort(l), want)
		told(t, "Set", order.Set(l), slices.CompactFunc(want, func(a, b api.Term) bool { return a.Int == b.Int }))
	}
}

// scribble writes over all that a list holds, and over what lies behind it.
func scribble(l []api.Term) {
	l = l[:cap(l)]
	for i := range l {
		scribble(l[i].Args)
		l[i] = api.Term{Kind: 99, Name: "scribbled"}
	}
}

// R2: nothing is written to what is handed in, nor behind it, and it shares no memory with what is told.
func TestHandedIn(t *testing.T) {
	behind := api.Term{Kind: 77, Name: "behind"}
	spare := func(l ...api.Term) []api.Term {
		return append(slices.Clone(l), slices.Repeat([]api.Term{behind}, 5)...)[:len(l)]
	}
	inner := func() api.Term { return comp("g", spare(dirty(v(2), 3), comp("h", spare(atom("a"))...))...) }
	list := func() []api.Term {
		return spare(comp("f", spare(num(2), inner())...), num(3), dirty(atom("z"), 2), comp("f", spare(num(1), inner())...), api.Term{}, num(3), comp("f", spare(num(2), inner())...), v(0))
	}
	whole := func(l []api.Term) [][]api.Term { // what it holds, with what lies behind each list
		all := [][]api.Term{l[:cap(l)]}
		for _, x := range l {
			all = append(all, x.Args[:cap(x.Args)])
			for _, y := range x.Args {
				all = append(all, y.Args[:cap(y.Args)])
			}
		}
		return all
	}
	l, was := list(), list()
	scribble(order.Sort(l))
	scribble(order.Set(l))
	order.Compare(l[0], l[3])
	order.Compare(l[3], l[6])
	if !reflect.DeepEqual(whole(l), whole(was)) {
		t.Error("what was handed in is changed")
	}
	sorts(t, l, order.Sort(was), order.Set(was))
}

// R2: what is told stays as it is, whatever comes of what was handed in, and of other answers.
func TestTold(t *testing.T) {
	l := []api.Term{comp("f", comp("g", num(1))), num(2), comp("f", comp("g", num(0)))}
	sorted, set := order.Sort(l), order.Set(l)
	order.Sort([]api.Term{atom("b"), atom("a"), atom("c")})
	scribble(order.Sort(l))
	scribble(order.Set(l))
	scribble(l)
	want := []api.Term{num(2), comp("f", comp("g", num(0))), comp("f", comp("g", num(1)))}
	told(t, "Sort", sorted, want)
	told(t, "Set", set, want)
}

// R2: no two lists of one answer share memory, even where they were one.
func TestOwnLists(t *testing.T) {
	args := []api.Term{comp("g", num(1))}
	l := []api.Term{comp("h", args[0], args[0]), comp("f", args...), comp("e", args...), comp("f", args...)}
	for i, got := range [][]api.Term{order.Sort(l), order.Set(l)} {
		last := len(got) - 1
		scribble(got[last].Args[0].Args)
		if !reflect.DeepEqual(got[last].Args[1], args[0]) {
			t.Error(i, "two arguments share memory")
		}
		for at := range last {
			if !reflect.DeepEqual(got[at].Args, args) {
				t.Error(i, "a list shares memory with another one:", at)
			}
			scribble(got[at].Args)
		}
	}
}

// P9.3: an order of all terms: the other way round its opposite, going on, and 0 just of the Same.
func TestOrder(t *testing.T) {
	l := slices.Concat(ascending()[:8], ascending()[16:30], ascending()[36:42], ascending()[60:], most()[2:7], drawnList(draws(3), 60, 3), bad()[:4])
	table := make([][]int, len(l))
	for i, a := range l {
		table[i] = make([]int, len(l))
		for j, b := range l {
			table[i][j] = order.Compare(a, b)
			if may := term.May(a) == api.OK && term.May(b) == api.OK; may && (table[i][j] == 0) != term.Same(a, b) {
				t.Errorf("Compare(%.90q, %.90q) = %d", key(a), key(b), table[i][j])
			}
		}
	}
	l = l[:len(l)-4] // of all that may be
	for i := range l {
		for j := range l {
			if table[i][j] != -table[j][i] {
				t.Errorf("both ways round: %d, %d", i, j)
			}
			for k := range l {
				if table[i][j] <= 0 && table[j][k] <= 0 && table[i][k] != min(table[i][j], table[j][k]) {
					t.Errorf("it does not go on: %d, %d, %d", i, j, k)
				}
			}
		}
	}
}

// P9.3: what Sort tells stands in order, Set's terms strictly so; both of these again are as they were.
func TestSorted(t *testing.T) {
	draw := draws(93)
	for n := range 120 {
		l := append(drawnList(draw, n, 3), bad()[:draw(9)]...)
		sorted, set := order.Sort(l), order.Set(l)
		for i := 1; i < len(sorted); i++ {
			if order.Compare(sorted[i-1], sorted[i]) > 0 {
				t.Fatal("Sort:", n, i)
			}
		}
		for i := 1; i < len(set); i++ {
			if order.Compare(set[i-1], set[i]) >= 0 {
				t.Fatal("Set:", n, i)
			}
		}
		sorts(t, sorted, sorted, set)
		sorts(t, set, set, set)
	}
}
