package store_test

import (
	"fmt"
	"maps"
	"math"
	"reflect"
	"strconv"
	"strings"
	"testing"

	"elenchus/api"
	"elenchus/atoms"
	"elenchus/heap"
	"elenchus/store"
	"elenchus/term"
)

func v(n int64) api.Term          { return api.Term{Kind: api.TVar, Int: n} }
func atom(name string) api.Term   { return api.Term{Kind: api.TAtom, Name: name} }
func num(n int64) api.Term        { return api.Term{Kind: api.TInt, Int: n} }
func cpx(re, im uint64) api.Term  { return api.Term{Kind: api.TCpx, Re: re, Im: im} }
func nothing(t api.Term) bool     { return reflect.DeepEqual(t, api.Term{}) }
func long(n int) string           { return strings.Repeat("n", n) }
func list(l ...api.Term) api.Term { return listTo(atom("[]"), l...) }
func comp(name string, args ...api.Term) api.Term {
	return api.Term{Kind: api.TComp, Name: name, Args: args}
}

func listTo(tail api.Term, l ...api.Term) api.Term {
	for i := len(l) - 1; i >= 0; i-- {
		tail = comp(".", l[i], tail)
	}
	return tail
}

// The cells, spelt out: a value times 8, and the tag.
func ref(at int) api.Cell       { return api.Cell(at)*8 + 0 }
func str(at int) api.Cell       { return api.Cell(at)*8 + 1 }
func atm(n int) api.Cell        { return api.Cell(n)*8 + 2 }
func small(n int64) api.Cell    { return api.Cell(n)*8 + 3 }
func big(at int) api.Cell       { return api.Cell(at)*8 + 4 }
func cpl(at int) api.Cell       { return api.Cell(at)*8 + 5 }
func fun(n, arity int) api.Cell { return api.Cell(n*256+arity)*8 + 6 }

// The ends of what a Small holds.
const (
	most  = 1<<60 - 1
	least = -1 << 60
)

// times is n of x.
func times[T any](n int, x T) []T {
	l := make([]T, n)
	for i := range l {
		l[i] = x
	}
	return l
}

// deepOver is t with so many terms above it.
func deepOver(t api.Term, levels int) api.Term {
	for range levels {
		t = comp("s", t)
	}
	return t
}

// wide is a term of so many nodes (from 1 on), not deep, whose last node is last.
func wide(nodes int, last api.Term) api.Term {
	t, have := last, 1
	for have+api.MaxArity <= nodes {
		t, have = comp("w", append(times(api.MaxArity-1, atom("x")), t)...), have+api.MaxArity
	}
	return deepOver(t, nodes-have)
}

// draws is a row of numbers below n, the same in each run.
func draws(seed uint64) func(n int) int {
	return func(n int) int {
		seed = seed*6364136223846793005 + 1442695040888963407
		return int(seed>>33) % n
	}
}

// drawn is a term of few names and variables, so that they are met again.
func drawn(draw func(n int) int, depth int) api.Term {
	switch n := draw(10); {
	case n < 2:
		return v(int64(draw(4)))
	case n < 3:
		return atom(string(rune('a' + draw(6))))
	case n < 4:
		return num([]int64{0, -1, most, least, most + 1, least - 1, math.MaxInt64, math.MinInt64}[draw(8)])
	case n < 5 || depth == 1:
		return cpx(uint64(draw(9)), math.MaxUint64-uint64(draw(9)))
	}
	t := comp(string(rune('a' + draw(6))))
	for range draw(3) + 1 {
		t.Args = append(t.Args, drawn(draw, depth-1))
	}
	return t
}

// dirty is t, each node with something in all that its kind gives no meaning.
func dirty(t api.Term) api.Term {
	d := api.Term{Kind: t.Kind, Name: long(api.MaxName + 1), Int: -7, Re: 8, Im: 9, Args: times(api.MaxArity+1, api.Term{Kind: -1})}
	switch t.Kind {
	case api.TVar, api.TInt:
		d.Int = t.Int
	case api.TAtom:
		d.Name = t.Name
	case api.TCpx:
		d.Re, d.Im = t.Re, t.Im
	case api.TComp:
		d.Name, d.Args = t.Name, make([]api.Term, len(t.Args))
		for i, x := range t.Args {
			d.Args[i] = dirty(x)
		}
	}
	return d
}

// table is a table of atoms with these names behind the first two.
func table(t *testing.T, names ...string) *atoms.Table {
	t.Helper()
	a := atoms.New()
	for _, s := range names {
		if _, e := a.Number(s); e != api.OK {
			t.Fatalf("Number(%q): %d", s, e)
		}
	}
	return a
}

// full is a table in which so many names more have room.
func full(t *testing.T, room int, names ...string) *atoms.Table {
	t.Helper()
	for n := len(names) + 2; n < api.MaxAtoms-room; n++ {
		names = append(names, "full "+strconv.Itoa(n))
	}
	return table(t, names...)
}

// of is a heap of just these cells, with no room for more.
func of(l ...api.Cell) *heap.Heap {
	h := heap.New(len(l))
	for _, c := range l {
		h.Push(c)
	}
	return h
}

// cells is what a heap has.
func cells(h *heap.Heap) []api.Cell {
	l := []api.Cell{}
	for at := range h.Len() {
		c, _ := h.Get(at)
		l = append(l, c)
	}
	return l
}

// names is what a table has behind the first two.
func names(a *atoms.Table) []string {
	l := []string{}
	for n := 2; n < a.Len(); n++ {
		s, _ := a.Name(n)
		l = append(l, s)
	}
	return l
}

// show tells of each cell its tag, by a letter, and its value.
func show(l ...api.Cell) string {
	s := ""
	for _, c := range l {
		s += fmt.Sprintf("%c%d ", "rsaibcf?"[c%8], uint64(c/8))
	}
	return s
}

// holds: h is to have just these cells.
func holds(t *testing.T, h *heap.Heap, want ...api.Cell) {
	t.Helper()
	if got := show(cells(h)...); got != show(want...) {
		t.Errorf("cells %s; want %s", got, show(want...))
	}
}

// has: a is to have just these names behind the first two.
func has(t *testing.T, a *atoms.Table, want ...string) {
	t.Helper()
	if got := names(a); fmt.Sprintf("%q", got) != fmt.Sprintf("%q", want) {
		t.Errorf("atoms %q; want %q", got, want)
	}
}

// knows: vars is to have just these.
func knows[K comparable, V comparable](t *testing.T, vars, want map[K]V) {
	t.Helper()
	if !maps.Equal(vars, want) {
		t.Errorf("variables %v; want %v", vars, want)
	}
}

// put: x is to be laid, and c to stand for it.
func put(t *testing.T, h *heap.Heap, a *atoms.Table, x api.Term, vars map[int64]api.Cell, c api.Cell) {
	t.Helper()
	if got, e := store.Put(h, a, x, vars); got != c || e != api.OK {
		t.Errorf("Put = %s, %d; want %s", show(got), e, show(c))
	}
}

// unput: x is to be refused by this error.
func unput(t *testing.T, h *heap.Heap, a *atoms.Table, x api.Term, vars map[int64]api.Cell, want api.Errno) {
	t.Helper()
	if got, e := store.Put(h, a, x, vars); got != 0 || e != want {
		t.Errorf("Put = %s, %d; want 0, %d", show(got), e, want)
	}
}

// get: c is to stand for x, and to be sound.
func get(t *testing.T, h *heap.Heap, a *atoms.Table, c api.Cell, vars map[int]int64, x api.Term) {
	t.Helper()
	if got, e := store.Get(h, a, c, vars); e != api.OK || !reflect.DeepEqual(got, x) {
		t.Errorf("Get(%s) = %.200v, %d; want %.200v", show(c), got, e, x)
	}
	if e := store.Sound(h, a, c); e != api.OK {
		t.Errorf("Sound(%s) = %d", show(c), e)
	}
}

// unget: c is to be refused by this error.
func unget(t *testing.T, h *heap.Heap, a *atoms.Table, c api.Cell, vars map[int]int64, want api.Errno) {
	t.Helper()
	if got, e := store.Get(h, a, c, vars); !nothing(got) || e != want {
		t.Errorf("Get(%s) = %.200v, %d; want nothing, %d", show(c), got, e, want)
	}
	if e := store.Sound(h, a, c); e != want {
		t.Errorf("Sound(%s) = %d; want %d", show(c), e, want)
	}
}

// P7.1: terms of one node: the cell of each kind, and what it pushes.
func TestPutOne(t *testing.T) {
	for i, x := range []struct {
		t    api.Term
		c    api.Cell
		laid []api.Cell
	}{
		{atom("[]"), atm(0), nil},
		{atom("."), atm(1), nil},
		{atom("a"), atm(2), nil},
		{atom("new"), atm(3), nil},
		{atom(""), atm(3), nil},
		{num(0), small(0), nil},
		{num(7), small(7), nil},
		{num(-1), small(-1), nil},
		{num(most), small(most), nil},
		{num(least), small(least), nil},
		{num(most + 1), big(1), []api.Cell{1 << 60}},
		{num(least - 1), big(1), []api.Cell{math.MaxUint64 - 1<<60}},
		{num(math.MaxInt64), big(1), []api.Cell{math.MaxInt64}},
		{num(math.MinInt64), big(1), []api.Cell{1 << 63}},
		{cpx(5, 6), cpl(1), []api.Cell{5, 6}},
		{cpx(0, 0), cpl(1), []api.Cell{0, 0}},
		{cpx(1<<63, math.MaxUint64), cpl(1), []api.Cell{1 << 63, math.MaxUint64}},
		{v(0), ref(1), []api.Cell{ref(1)}},
		{v(math.MaxInt64), ref(1), []api.Cell{ref(1)}},
	} {
		for _, y := range []api.Term{x.t, dirty(x.t)} {
			h, a := heap.New(9), table(t, "a")
			h.Push(77)
			put(t, h, a, y, nil, x.c)
			holds(t, h, append([]api.Cell{77}, x.laid...)...)
			if t.Failed() {
				t.Fatal("case", i)
			}
		}
	}
}

// P7.1: how compounds are laid: the functor, a variable for each argument, then argument by argument.
func TestPutCompound(t *testing.T) {
	for i, x := range []struct {
		t    api.Term
		c    api.Cell
		laid []api.Cell
	}{
		{comp("f", v(0), atom("a"), v(0)), str(0), []api.Cell{fun(2, 3), ref(1), atm(3), ref(1)}}, // the document's own
		{comp("g", atom("a")), str(0), []api.Cell{fun(4, 1), atm(3)}},
		{comp("[]", atom("f")), str(0), []api.Cell{fun(0, 1), atm(2)}},
		{comp("new", num(-3)), str(0), []api.Cell{fun(5, 1), small(-3)}},
		{comp("f", v(3), v(1), v(3), v(1)), str(0), []api.Cell{fun(2, 4), ref(1), ref(2), ref(1), ref(2)}},
		{comp("f", num(most+1), cpx(5, 6), num(most)), str(0), []api.Cell{fun(2, 3), big(4), cpl(5), small(most), 1 << 60, 5, 6}},
		{comp("f", comp("g", v(0)), comp("g", v(0))), str(0), []api.Cell{fun(2, 2), str(3), str(5), fun(4, 1), ref(4), fun(4, 1), ref(4)}},
		{comp("f", v(0), comp("g", v(0), v(1)), v(1)), str(0), []api.Cell{fun(2, 3), ref(1), str(4), ref(6), fun(4, 2), ref(1), ref(6)}},
		{comp("f", comp("g", comp("f", num(least-1)), v(0)), v(0)), str(0), []api.Cell{fun(2, 2), str(3), ref(5), fun(4, 2), str(6), ref(5), fun(2, 1), big(8), math.MaxUint64 - 1<<60}},
		{list(num(1), v(0)), str(0), []api.Cell{fun(1, 2), small(1), str(3), fun(1, 2), ref(4), atm(0)}},
		{comp("f", times(api.MaxArity, v(9))...), str(0), append([]api.Cell{fun(2, api.MaxArity)}, times(api.MaxArity, ref(1))...)},
	} {
		for _, y := range []api.Term{x.t, dirty(x.t)} {
			h := heap.New(99)
			put(t, h, table(t, "f", "a", "g"), y, nil, x.c)
			holds(t, h, x.laid...)
			if t.Failed() {
				t.Fatal("case", i)
			}
		}
	}
}

// P7.1: what is laid stands behind all that there was, which stays as it is.
func TestPutBehind(t *testing.T) {
	h, a := heap.New(99), atoms.New()
	put(t, h, a, comp("f", v(0)), nil, str(0))
	put(t, h, a, comp("f", v(0)), nil, str(2))
	put(t, h, a, cpx(8, 9), nil, cpl(4))
	put(t, h, a, v(0), nil, ref(6))
	put(t, h, a, comp("f", v(0)), nil, str(7))
	holds(t, h, fun(2, 1), ref(1), fun(2, 1), ref(3), 8, 9, ref(6), fun(2, 1), ref(8))
}

// P7.1: atoms get their numbers as they are met: a functor ahead of its arguments, these from left to right.
func TestPutAtoms(t *testing.T) {
	h, a := heap.New(99), table(t, "b")
	put(t, h, a, comp("f", comp("g", atom("a"), atom("b")), atom("c"), comp("[]", atom("f")), comp("h", atom("f/1"))), nil, str(0))
	has(t, a, "b", "f", "g", "a", "c", "h", "f/1")
	holds(t, h, fun(3, 4), str(5), atm(6), str(8), str(10), fun(4, 2), atm(5), atm(2), fun(0, 1), atm(3), fun(7, 1), atm(8))
}

// P7.1: a name is one atom, also as a functor's of any arity; names that look alike are not one.
func TestPutNames(t *testing.T) {
	h, a := heap.New(99), atoms.New()
	put(t, h, a, comp("a", atom("a"), comp("a", atom("A"))), nil, str(0))
	has(t, a, "a", "A")
	holds(t, h, fun(2, 2), atm(2), str(3), fun(2, 1), atm(3))
	wide := strings.Repeat("é", api.MaxName/2)
	put(t, h, a, comp(wide, atom(long(api.MaxName)), atom("\x00"), atom("\xff")), nil, str(5))
	has(t, a, "a", "A", wide, long(api.MaxName), "\x00", "\xff")
}

// P7.1: variables of the map are the cells that it tells; new ones stand in it then.
func TestPutVars(t *testing.T) {
	h, a := heap.New(99), table(t, "f", "g")
	vars := map[int64]api.Cell{}
	put(t, h, a, v(5), vars, ref(0))
	knows(t, vars, map[int64]api.Cell{5: ref(0)})
	put(t, h, a, v(5), vars, ref(0))
	put(t, h, a, comp("f", v(7), v(5), v(7)), vars, str(1))
	knows(t, vars, map[int64]api.Cell{5: ref(0), 7: ref(2)})
	put(t, h, a, comp("g", v(7), comp("f", v(0), v(math.MaxInt64)), v(0)), vars, str(5))
	knows(t, vars, map[int64]api.Cell{5: ref(0), 7: ref(2), 0: ref(10), math.MaxInt64: ref(11)})
	put(t, h, a, v(math.MaxInt64), vars, ref(11))
	holds(t, h, ref(0), fun(2, 3), ref(2), ref(0), ref(2), fun(3, 3), ref(2), str(9), ref(10), fun(2, 2), ref(10), ref(11))
}

// P7.1: the map's cells are taken as they are, whatever they are.
func TestPutVarsAsTheyAre(t *testing.T) {
	h, a := heap.New(99), table(t, "f")
	vars := map[int64]api.Cell{0: ref(77), 1: atm(2), 2: math.MaxUint64, 3: 0, -4: ref(9)}
	want := maps.Clone(vars)
	put(t, h, a, v(1), vars, atm(2))
	put(t, h, a, v(2), vars, math.MaxUint64)
	put(t, h, a, comp("f", v(0), v(1), v(2), v(3)), vars, str(0))
	holds(t, h, fun(2, 4), ref(77), atm(2), math.MaxUint64, 0)
	knows(t, vars, want)
}

// P7.1: with a nil map all variables are new, each time; within a term those of one number are one.
func TestPutNoVars(t *testing.T) {
	h, a := heap.New(99), table(t, "f")
	put(t, h, a, v(3), nil, ref(0))
	put(t, h, a, v(3), nil, ref(1))
	put(t, h, a, comp("f", v(3), comp("f", v(3))), nil, str(2))
	put(t, h, a, comp("f", v(3), v(4)), nil, str(7))
	holds(t, h, ref(0), ref(1), fun(2, 2), ref(3), str(5), fun(2, 1), ref(3), fun(2, 2), ref(8), ref(9))
}

// P7.1: a heap or a table that is nil is told ahead of all else; nothing is made.
func TestPutNil(t *testing.T) {
	for _, x := range []api.Term{atom("a"), num(1), v(0), comp("f", v(0)), {}, v(-1), atom(long(api.MaxName + 1))} {
		h, a, vars := heap.New(9), atoms.New(), map[int64]api.Cell{}
		unput(t, nil, a, x, vars, api.ErrArg)
		unput(t, h, nil, x, vars, api.ErrArg)
		unput(t, nil, nil, x, nil, api.ErrArg)
		unput(t, nil, full(t, 0), x, vars, api.ErrArg)
		unput(t, heap.New(0), nil, x, vars, api.ErrArg)
		holds(t, h)
		has(t, a)
		knows(t, vars, map[int64]api.Cell{})
	}
}

// bad: terms that may not be, and May's error of each.
func bad() map[api.Errno][]api.Term {
	ring := comp("r", v(0))
	ring.Args[0] = ring
	return map[api.Errno][]api.Term{
		api.ErrArg: {{}, {Kind: 6}, {Kind: -1}, v(-1), v(math.MinInt64), comp("f"), comp("f", v(0), atom("a"), v(-1)), deepOver(v(-1), api.MaxDepth-1), comp("f", v(-1), atom(long(api.MaxName+1)))},
		api.ErrLong: {atom(long(api.MaxName + 1)), comp(long(api.MaxName+1), v(0)), comp("f", v(0), atom(long(api.MaxName+1)), v(-1)), comp("f", times(api.MaxArity+1, v(0))...),
			deepOver(v(0), api.MaxDepth), wide(api.MaxNodes+1, v(0)), ring, comp(long(api.MaxName), atom(long(api.MaxName+1)))},
	}
}

// P7.1: a term that may not be is told by May's error, ahead of those of atoms and of room; nothing of it is made.
func TestPutBad(t *testing.T) {
	for e, l := range bad() {
		for i, x := range l {
			h, a, vars := heap.New(9000), atoms.New(), map[int64]api.Cell{}
			unput(t, h, a, x, vars, e)
			unput(t, heap.New(0), a, x, vars, e)
			unput(t, heap.New(0), full(t, 0), x, nil, e)
			holds(t, h)
			has(t, a)
			knows(t, vars, map[int64]api.Cell{})
			if t.Failed() {
				t.Fatalf("bad term %d of %d", i, e)
			}
		}
	}
}

// P7.1: the greatest terms are laid.
func TestPutGreatest(t *testing.T) {
	h, a := heap.New(api.MaxCells), atoms.New()
	put(t, h, a, deepOver(v(0), api.MaxDepth-1), nil, str(0))
	if h.Len() != 2*(api.MaxDepth-1) {
		t.Error("cells of the deepest:", h.Len())
	}
	h = heap.New(api.MaxCells)
	put(t, h, a, wide(api.MaxNodes, v(0)), nil, str(0))
	put(t, h, a, list(times(api.MaxDepth-1, v(0))...), nil, str(h.Len()))
	put(t, h, a, atom(long(api.MaxName)), nil, atm(a.Len()))
}

// P7.1: each kind with just as much room as it needs, and with each room below that: what was laid by then stays.
func TestPutRoom(t *testing.T) {
	for i, x := range []struct {
		t    api.Term
		c    api.Cell
		laid []api.Cell // in the order in which they are pushed, as they stand at the end
	}{
		{atom("a"), atm(2), nil},
		{num(most), small(most), nil},
		{num(most + 1), big(0), []api.Cell{1 << 60}},
		{num(math.MinInt64), big(0), []api.Cell{1 << 63}},
		{cpx(5, 6), cpl(0), []api.Cell{5, 6}},
		{v(0), ref(0), []api.Cell{ref(0)}},
		{comp("f", v(1), v(2)), str(0), []api.Cell{fun(3, 2), ref(1), ref(2)}},
		{comp("f", v(1), v(1), v(1)), str(0), []api.Cell{fun(3, 3), ref(1), ref(1), ref(1)}},
	} {
		h, a := heap.New(len(x.laid)), table(t, "a", "f")
		put(t, h, a, x.t, nil, x.c)
		holds(t, h, x.laid...)
		for room := range x.laid {
			h, vars := heap.New(room), map[int64]api.Cell{}
			unput(t, h, a, x.t, vars, api.ErrRoom)
			knows(t, vars, map[int64]api.Cell{})
			if h.Len() != room {
				t.Errorf("%d: %d cells stay; want %d", i, h.Len(), room)
			}
		}
		if t.Failed() {
			t.Fatal("case", i)
		}
	}
}

// P7.1: what stays where the room ends: the words laid, the arguments Set, the atoms and variables met.
func TestPutRoomStays(t *testing.T) {
	x := comp("f", v(0), cpx(5, 6), comp("g", v(1), atom("a")), num(math.MaxInt64), atom("b"))
	for room, l := range [][]api.Cell{
		{},
		{fun(2, 5)},
		{fun(2, 5), ref(1)},
		{fun(2, 5), ref(1), ref(2)},
		{fun(2, 5), ref(1), ref(2), ref(3)},
		{fun(2, 5), ref(1), ref(2), ref(3), ref(4)},
		{fun(2, 5), ref(1), ref(2), ref(3), ref(4), ref(5)},
		{fun(2, 5), ref(1), ref(2), ref(3), ref(4), ref(5), 5},
		{fun(2, 5), ref(1), cpl(6), ref(3), ref(4), ref(5), 5, 6},
		{fun(2, 5), ref(1), cpl(6), ref(3), ref(4), ref(5), 5, 6, fun(3, 2)},
		{fun(2, 5), ref(1), cpl(6), ref(3), ref(4), ref(5), 5, 6, fun(3, 2), ref(9)},
		{fun(2, 5), ref(1), cpl(6), str(8), ref(4), ref(5), 5, 6, fun(3, 2), ref(9), atm(4)},
		{fun(2, 5), ref(1), cpl(6), str(8), big(11), atm(5), 5, 6, fun(3, 2), ref(9), atm(4), math.MaxInt64},
	} {
		h, a, vars := heap.New(room), atoms.New(), map[int64]api.Cell{}
		want := map[int64]api.Cell{}
		if room >= 6 {
			want[0] = ref(1)
		}
		if room >= 11 {
			want[1] = ref(9)
		}
		if room == 12 {
			put(t, h, a, x, vars, str(0))
		} else {
			unput(t, h, a, x, vars, api.ErrRoom)
		}
		holds(t, h, l...)
		knows(t, vars, want)
		met := []string{"f"}
		if room >= 8 {
			met = append(met, "g")
		}
		if room >= 11 {
			met = append(met, "a")
		}
		if room >= 12 {
			met = append(met, "b")
		}
		has(t, a, met...)
		if t.Failed() {
			t.Fatal("room", room)
		}
	}
}

// P7.1: a heap that has something, or that is as great as there may be, has room for what is left.
func TestPutRoomLeft(t *testing.T) {
	h, a := heap.New(math.MaxInt), table(t, "f")
	for range api.MaxCells - 2 {
		h.Push(77)
	}
	unput(t, h, a, comp("f", v(0), v(1)), nil, api.ErrRoom)
	h.Cut(api.MaxCells - 2)
	put(t, h, a, comp("f", v(0)), nil, str(api.MaxCells-2))
	unput(t, h, a, v(0), nil, api.ErrRoom)
	put(t, h, a, num(3), nil, small(3))
}

// P7.1: a table that is full: names that it has are laid as ever, others told; what was made ahead of them stays.
func TestPutFull(t *testing.T) {
	h, vars := heap.New(99), map[int64]api.Cell{}
	a := full(t, 0, "f", "g", "a")
	last := "full " + strconv.Itoa(api.MaxAtoms-1)
	unput(t, h, a, atom("new"), vars, api.ErrFull)
	unput(t, h, a, comp("new", v(0)), vars, api.ErrFull)
	holds(t, h)
	knows(t, vars, map[int64]api.Cell{})
	put(t, h, a, atom(last), vars, atm(api.MaxAtoms-1))
	put(t, h, a, comp(last, v(0)), vars, str(0))
	holds(t, h, fun(api.MaxAtoms-1, 1), ref(1))
	unput(t, h, a, comp("f", v(1), atom("a"), comp("g", v(2), atom("new"), v(3)), v(4)), vars, api.ErrFull)
	holds(t, h, fun(api.MaxAtoms-1, 1), ref(1), fun(2, 4), ref(3), atm(4), ref(5), ref(6), fun(3, 3), ref(8), ref(9), ref(10))
	knows(t, vars, map[int64]api.Cell{0: ref(1), 1: ref(3), 2: ref(8)})
	if a.Len() != api.MaxAtoms {
		t.Error("atoms:", a.Len())
	}
}

// P7.1: the last name that has room, and the one behind it.
func TestPutLastAtom(t *testing.T) {
	h, a := heap.New(99), full(t, 1, "f")
	unput(t, h, a, comp("f", atom("one"), atom("two")), nil, api.ErrFull)
	holds(t, h, fun(2, 2), atm(api.MaxAtoms-1), ref(2))
	if s, _ := a.Name(api.MaxAtoms - 1); s != "one" {
		t.Errorf("the last name is %q", s)
	}
}

// P7.1, R4: of a node the atom's error is told ahead of the room's; of nodes the first that is met.
func TestPutFullAndRoom(t *testing.T) {
	a := full(t, 0, "f")
	unput(t, heap.New(0), a, atom("new"), nil, api.ErrFull)
	unput(t, heap.New(0), a, comp("new", v(0)), nil, api.ErrFull)
	unput(t, heap.New(0), a, comp("f", atom("new")), nil, api.ErrRoom)
	unput(t, heap.New(2), a, comp("f", atom("new")), nil, api.ErrFull)
	unput(t, heap.New(3), a, comp("f", atom("new"), cpx(1, 2)), nil, api.ErrFull)
	unput(t, heap.New(3), a, comp("f", cpx(1, 2), atom("new")), nil, api.ErrRoom)
}

// model is Put, by its own words, call by call; it is a plain list with room for most.
type model struct {
	l    []api.Cell
	most int
	a    *atoms.Table
	vars map[int64]api.Cell
}

func (m *model) push(c api.Cell) (int, api.Errno) {
	if len(m.l) == m.most {
		return 0, api.ErrRoom
	}
	m.l = append(m.l, c)
	return len(m.l) - 1, api.OK
}

// put is for t as the argument whose cell is at (-1: none).
func (m *model) put(t api.Term, at int) (api.Cell, api.Errno) {
	switch t.Kind {
	case api.TVar:
		if c, ok := m.vars[t.Int]; ok {
			return c, api.OK
		}
		if at < 0 {
			n, e := m.push(ref(len(m.l)))
			if e != api.OK {
				return 0, e
			}
			at = n
		}
		m.vars[t.Int] = ref(at)
		return ref(at), api.OK
	case api.TAtom:
		n, e := m.a.Number(t.Name)
		if e != api.OK {
			return 0, e
		}
		return atm(n), api.OK
	case api.TInt:
		if t.Int >= least && t.Int <= most {
			return small(t.Int), api.OK
		}
		n, e := m.push(api.Cell(t.Int))
		if e != api.OK {
			return 0, e
		}
		return big(n), api.OK
	case api.TCpx:
		n, e := m.push(api.Cell(t.Re))
		if e != api.OK {
			return 0, e
		}
		if _, e = m.push(api.Cell(t.Im)); e != api.OK {
			return 0, e
		}
		return cpl(n), api.OK
	}
	return m.compound(t)
}

func (m *model) compound(t api.Term) (api.Cell, api.Errno) {
	n, e := m.a.Number(t.Name)
	if e != api.OK {
		return 0, e
	}
	f, e := m.push(fun(n, len(t.Args)))
	if e != api.OK {
		return 0, e
	}
	for range t.Args {
		if _, e := m.push(ref(len(m.l))); e != api.OK {
			return 0, e
		}
	}
	for i, x := range t.Args {
		c, e := m.put(x, f+1+i)
		if e != api.OK {
			return 0, e
		}
		m.l[f+1+i] = c
	}
	return str(f), api.OK
}

// P7.1: many terms, in a row on one heap, with much room and little, held against the words.
func TestPutAgainstWords(t *testing.T) {
	draw := draws(1)
	met := map[api.Errno]int{}
	for range 3000 {
		most, room := draw(80), api.MaxAtoms
		if draw(4) == 0 {
			room = draw(5)
		}
		h, a := heap.New(most), atoms.New()
		m := &model{most: most, a: atoms.New(), vars: map[int64]api.Cell{}}
		for n := 2; n < api.MaxAtoms-room; n++ {
			a.Number(strconv.Itoa(n))
			m.a.Number(strconv.Itoa(n))
		}
		vars := map[int64]api.Cell{}
		for range 3 {
			if draw(3) == 0 { // with a nil map, all variables of the term are new
				vars, m.vars = nil, map[int64]api.Cell{}
			}
			x := drawn(draw, 6)
			want, e := m.put(x, -1)
			got, f := store.Put(h, a, dirty(x), vars)
			if got != want || f != e {
				t.Fatalf("Put(%v) = %s, %d; want %s, %d", x, show(got), f, show(want), e)
			}
			met[e]++
			holds(t, h, m.l...)
			if a.Len() != m.a.Len() {
				t.Errorf("%d atoms; want %d", a.Len(), m.a.Len())
			}
			if vars == nil {
				vars, m.vars = map[int64]api.Cell{}, map[int64]api.Cell{}
			}
			knows(t, vars, m.vars)
			if t.Failed() {
				t.Fatalf("behind Put(%v), room %d", x, most)
			}
		}
	}
	if met[api.OK] < 1000 || met[api.ErrRoom] < 100 || met[api.ErrFull] < 100 {
		t.Error("too few of a kind:", met)
	}
}

// P7.1, R2: the term that is handed in is neither changed nor kept.
func TestPutKeepsNothing(t *testing.T) {
	h, a := heap.New(99), atoms.New()
	x, y := comp("f", v(1), comp("g", atom("a")), num(most+1)), comp("f", v(1), comp("g", atom("a")), num(most+1))
	put(t, h, a, x, nil, str(0))
	if !reflect.DeepEqual(x, y) {
		t.Error("Put changed the term:", x)
	}
	x.Args[0], x.Args[1].Args[0] = num(1), num(2)
	get(t, h, a, str(0), nil, comp("f", v(0), comp("g", atom("a")), num(most+1)))
}

// P7.2: cells of each kind.
func TestGetOne(t *testing.T) {
	h := of(ref(0), fun(2, 1), atm(2), 5, math.MaxUint64, 1<<63, ref(6), ref(6), str(1))
	a := table(t, "a")
	for i, x := range []struct {
		c api.Cell
		t api.Term
	}{
		{atm(0), atom("[]")}, {atm(1), atom(".")}, {atm(2), atom("a")},
		{small(0), num(0)}, {small(-1), num(-1)}, {small(most), num(most)}, {small(least), num(least)},
		{big(3), num(5)}, {big(4), num(-1)}, {big(5), num(math.MinInt64)}, {big(0), num(0)}, {big(8), num(9)},
		{cpl(3), cpx(5, math.MaxUint64)}, {cpl(4), cpx(math.MaxUint64, 1<<63)}, {cpl(7), cpx(48, 9)}, {cpl(0), cpx(0, 8*513+6)},
		{ref(0), v(0)}, {ref(6), v(0)}, {ref(7), v(0)},
		{ref(2), atom("a")}, {ref(8), comp("a", atom("a"))}, {str(1), comp("a", atom("a"))},
	} {
		get(t, h, a, x.c, nil, x.t)
		if t.Failed() {
			t.Fatal("case", i)
		}
	}
}

// P7.2: rows of references are followed, of the cell itself and of arguments.
func TestGetDeref(t *testing.T) {
	h := of(fun(2, 3), ref(4), ref(7), ref(8), ref(5), ref(6), big(9), ref(7), ref(7), 77, ref(0), str(0), ref(11))
	a := table(t, "f")
	x := comp("f", num(77), v(0), v(0))
	get(t, h, a, str(0), nil, x)
	get(t, h, a, ref(11), nil, x)
	get(t, h, a, ref(12), nil, x)
	get(t, h, a, ref(4), nil, num(77))
	get(t, h, a, ref(1), nil, num(77))
	get(t, h, a, ref(3), nil, v(0))
	unget(t, h, a, ref(10), nil, api.ErrForm) // a functor is no term, wherever one comes to it
	h = heap.New(api.MaxCells)
	h.Push(atm(2))
	for at := 1; at < api.MaxCells; at++ {
		h.Push(ref(at - 1))
	}
	get(t, h, a, ref(api.MaxCells-1), nil, atom("f"))
	h.Set(0, ref(0))
	get(t, h, a, ref(api.MaxCells-1), nil, v(0))
}

// P7.2: variables' numbers: those of the map by their places; new ones get as many as it has.
func TestGetVars(t *testing.T) {
	h := of(fun(2, 4), ref(6), ref(2), ref(6), ref(7), ref(5), ref(6), ref(5))
	a := table(t, "f")
	vars := map[int]int64{}
	get(t, h, a, str(0), vars, comp("f", v(0), v(1), v(0), v(2)))
	knows(t, vars, map[int]int64{6: 0, 2: 1, 5: 2})
	get(t, h, a, str(0), vars, comp("f", v(0), v(1), v(0), v(2)))
	knows(t, vars, map[int]int64{6: 0, 2: 1, 5: 2})
	get(t, h, a, str(0), nil, comp("f", v(0), v(1), v(0), v(2)))
	vars = map[int]int64{5: 40, 77: 8}
	get(t, h, a, ref(7), vars, v(40))
	get(t, h, a, ref(6), vars, v(2))
	knows(t, vars, map[int]int64{5: 40, 77: 8, 6: 2})
	get(t, h, a, str(0), vars, comp("f", v(2), v(3), v(2), v(40)))
	knows(t, vars, map[int]int64{5: 40, 77: 8, 6: 2, 2: 3})
	get(t, h, a, small(7), vars, num(7))
	knows(t, vars, map[int]int64{5: 40, 77: 8, 6: 2, 2: 3})
}

// P7.2: the map has what was met ahead of an error, and nothing behind it.
func TestGetVarsAtError(t *testing.T) {
	a := table(t, "f", "g")
	vars := map[int]int64{}
	h := of(fun(2, 4), ref(1), str(5), ref(3), ref(4), fun(3, 3), ref(6), 7, ref(8))
	unget(t, h, a, str(0), vars, api.ErrForm)
	knows(t, vars, map[int]int64{1: 0, 6: 1})
	h.Set(7, str(0)) // the bound of depth is met there, with no other variable on the way
	vars = map[int]int64{}
	unget(t, h, a, str(0), vars, api.ErrLong)
	knows(t, vars, map[int]int64{1: 0, 6: 1})
	vars = map[int]int64{}
	unget(t, of(fun(2, 2), ref(1)), a, str(0), vars, api.ErrForm) // the second argument is not there, and so the term is not
	knows(t, vars, map[int]int64{})
}

// odd is cells from place b on, a heap's last: a ring, a functor whose arguments are not all there, and what is no term.
func odd(b int) []api.Cell {
	return []api.Cell{ref(b + 1), ref(b + 2), ref(b), fun(2, 7), atm(2), 7, 77, 7, ref(44)}
}

// noTerms is cells that stand for none in a heap that ends with odd(b), by a table of four names.
func noTerms(b int) []api.Cell {
	const far = 1<<61 - 1
	return []api.Cell{
		ref(b + 9), ref(b + 10), ref(far), ref(1 << 32), ref(1<<32 + b + 4), ref(1 << 60), // no such place
		ref(b), ref(b + 1), ref(b + 2), ref(b + 8), // a ring; one that leads to no place
		ref(b + 3), ref(b + 5), // one that leads to a functor, or to no cell's tag
		str(b + 9), str(far), str(1 << 32), str(1<<32 + b + 3), // no such place
		str(b), str(b + 4), str(b + 6), // another cell's place
		str(b + 3), // not all of the arguments
		big(b + 9), big(far), big(1 << 32), big(1<<32 + b + 3),
		cpl(b + 9), cpl(b + 8), cpl(far), cpl(far - 1), cpl(1 << 32), // no word, or not both
		fun(2, 1), fun(0, 0), 6, 7, 8*77 + 7, math.MaxUint64, math.MaxUint64 - 1, // tags 6, 7
		atm(4), atm(5), atm(api.MaxAtoms), atm(far), atm(1 << 32), atm(1<<32 + 2), atm(1 << 60), // no name
	}
}

// P7.2: cells that stand for no term, by themselves, as arguments, and behind references.
func TestGetForm(t *testing.T) {
	a := table(t, "a", "b")
	for i, c := range noTerms(0) {
		unget(t, of(odd(0)...), a, c, nil, api.ErrForm)
		if t.Failed() {
			t.Fatal("case", i)
		}
	}
	for i, c := range noTerms(5) {
		h := of(append([]api.Cell{fun(3, 3), atm(2), c, atm(2), ref(2)}, odd(5)...)...)
		unget(t, h, a, c, nil, api.ErrForm)
		unget(t, h, a, str(0), nil, api.ErrForm)
		unget(t, h, a, ref(4), nil, api.ErrForm)
		if t.Failed() {
			t.Fatal("case", i, "of those within")
		}
	}
	get(t, of(append([]api.Cell{fun(3, 3), atm(2), big(5), atm(2), ref(2)}, odd(5)...)...), a, str(0), nil, comp("b", atom("a"), num(48), atom("a")))
}

// P7.2: an empty heap has no place, and a table without other names has two.
func TestGetEmpty(t *testing.T) {
	h, a := heap.New(5), atoms.New() // room alone is no cell
	for _, c := range []api.Cell{ref(0), str(0), big(0), cpl(0), atm(2), 6, 7, ref(1), str(1)} {
		unget(t, h, a, c, nil, api.ErrForm)
	}
	get(t, h, a, atm(0), nil, atom("[]"))
	get(t, h, a, atm(1), nil, atom("."))
	get(t, h, a, small(3), nil, num(3))
}

// P7.2: functors that are none.
func TestGetFunctors(t *testing.T) {
	a := full(t, 0, "f")
	few := table(t, "f")
	args := times(300, atm(2))
	for i, x := range []struct {
		f    api.Cell
		full bool // is it one in a table that is full?
		few  bool // in one that has three names?
	}{
		{fun(2, 1), true, true}, {fun(2, api.MaxArity), true, true}, {fun(0, 1), true, true}, {fun(1, 2), true, true},
		{fun(2, 0), false, false}, {fun(2, api.MaxArity+1), false, false}, {fun(2, 255), false, false},
		{fun(3, 1), true, false}, {fun(api.MaxAtoms-1, 1), true, false}, {fun(api.MaxAtoms, 1), false, false},
		{fun(1<<32+2, 1), false, false}, {fun(1<<32, 1), false, false}, {math.MaxUint64 - 1, false, false}, {6, false, false},
		{fun(2, 1) - 1, false, false}, {fun(2, 1) - 6, false, false}, {fun(2, 1) + 1, false, false}, // no functor's tag
	} {
		h := of(append([]api.Cell{x.f}, args...)...)
		for _, y := range []struct {
			a  *atoms.Table
			ok bool
		}{{a, x.full}, {few, x.few}} {
			if !y.ok {
				unget(t, h, y.a, str(0), nil, api.ErrForm)
			} else if got, e := store.Get(h, y.a, str(0), nil); e != api.OK || len(got.Args) != int(x.f>>3)%256 {
				t.Errorf("%d: Get = %v, %d", i, got, e)
			}
		}
	}
}

// P7.2: words that are not all there, and just so.
func TestGetWords(t *testing.T) {
	a := table(t, "f")
	for arity := 1; arity <= api.MaxArity; arity++ {
		l := append([]api.Cell{fun(2, arity)}, times(arity, atm(2))...)
		get(t, of(l...), a, str(0), nil, comp("f", times(arity, atom("f"))...))
		for n := range arity + 1 {
			unget(t, of(l[:n]...), a, str(0), nil, api.ErrForm)
		}
	}
	get(t, of(1, 2), a, cpl(0), nil, cpx(1, 2))
	unget(t, of(1, 2), a, cpl(1), nil, api.ErrForm)
	unget(t, of(1), a, cpl(0), nil, api.ErrForm)
	get(t, of(1), a, big(0), nil, num(1))
	unget(t, of(1), a, big(1), nil, api.ErrForm)
	h := of(fun(2, 1), atm(2))
	h.Cut(1)
	unget(t, h, a, str(0), nil, api.ErrForm) // what was cut off is not there
}

// laidOn lays x in a new heap, as Put would; a term may be too great for Put.
func laidOn(t *testing.T, x api.Term) (*heap.Heap, *atoms.Table, api.Cell) {
	t.Helper()
	m := &model{most: api.MaxCells, a: atoms.New(), vars: map[int64]api.Cell{}}
	c, e := m.put(x, -1)
	if e != api.OK {
		t.Fatal(e)
	}
	return of(m.l...), m.a, c
}

// P7.2: MaxNodes and MaxDepth are told, and one more is not.
func TestGetBounds(t *testing.T) {
	for i, x := range []struct{ most, over api.Term }{
		{deepOver(v(0), api.MaxDepth-1), deepOver(v(0), api.MaxDepth)},
		{deepOver(num(math.MaxInt64), api.MaxDepth-1), deepOver(num(math.MaxInt64), api.MaxDepth)},
		{comp("f", v(0), deepOver(atom("a"), api.MaxDepth-2)), comp("f", v(0), deepOver(atom("a"), api.MaxDepth-1))},
		{comp("f", deepOver(atom("a"), api.MaxDepth-2), v(0)), comp("f", deepOver(atom("a"), api.MaxDepth-1), v(0))},
		{list(times(api.MaxDepth-1, v(0))...), list(times(api.MaxDepth, v(0))...)},
		{wide(api.MaxNodes, v(0)), wide(api.MaxNodes+1, v(0))},
		{wide(api.MaxNodes, cpx(1, 2)), wide(api.MaxNodes+1, cpx(1, 2))},
		{comp("f", wide(api.MaxNodes-3, v(0)), v(0), atom("a")), comp("f", wide(api.MaxNodes-3, v(0)), v(0), atom("a"), atom("b"))},
	} {
		h, a, c := laidOn(t, x.most)
		get(t, h, a, c, nil, x.most)
		h, a, c = laidOn(t, x.over)
		unget(t, h, a, c, nil, api.ErrLong)
		if t.Failed() {
			t.Fatal("case", i)
		}
	}
}

// P7.2: what is shared counts as often as it stands in the term.
func TestGetShared(t *testing.T) {
	a := table(t, "d")
	for levels, want := range map[int]api.Errno{1: api.OK, 9: api.OK, 10: api.ErrLong, 11: api.ErrLong, 400: api.ErrLong} { // 2^(levels + 1) - 1 nodes
		h := heap.New(9000)
		h.Push(ref(0))
		x := v(0)
		for n := range levels {
			h.Push(fun(2, 2))
			h.Push(str(3*n - 2))
			h.Push(ref(3*n + 2))
			if n == 0 {
				h.Set(2, ref(0))
			}
			if n < 9 {
				x = comp("d", x, x)
			}
		}
		if want == api.OK {
			get(t, h, a, str(3*levels-2), nil, x)
		} else {
			unget(t, h, a, str(3*levels-2), nil, want)
		}
	}
}

// P7.2: terms that stand in themselves are too long, whichever bound is met first.
func TestGetInItself(t *testing.T) {
	a := table(t, "f")
	unget(t, of(fun(2, 1), str(0)), a, str(0), nil, api.ErrLong)
	unget(t, of(fun(2, 1), ref(2), str(0)), a, str(0), nil, api.ErrLong)
	unget(t, of(fun(2, 2), str(0), str(0)), a, str(0), nil, api.ErrLong)
	unget(t, of(fun(2, 2), atm(2), str(0)), a, str(0), nil, api.ErrLong)
	unget(t, of(append([]api.Cell{fun(2, 20)}, times(20, str(0))...)...), a, str(0), nil, api.ErrLong)
}

// P7.2: the first error counts, node by node; of one node ErrLong ahead of ErrForm.
func TestGetFirstError(t *testing.T) {
	a := table(t, "f")
	for i, x := range []struct {
		cells []api.Cell
		want  api.Errno
	}{
		{[]api.Cell{fun(2, 2), str(0), 7}, api.ErrLong},
		{[]api.Cell{fun(2, 2), 7, str(0)}, api.ErrForm},
		{[]api.Cell{fun(2, 2), str(3), str(0), fun(2, 1), 7}, api.ErrForm},
		{[]api.Cell{fun(2, 2), str(0), str(3), fun(2, 1), 7}, api.ErrLong},
		{[]api.Cell{fun(2, 2), atm(2), str(0), fun(2, 1), 7}, api.ErrLong},
		{[]api.Cell{fun(2, 2), str(0)}, api.ErrForm}, // a term ahead of its arguments
		{[]api.Cell{fun(77, 2), str(0), str(0)}, api.ErrForm},
	} {
		unget(t, of(x.cells...), a, str(0), nil, x.want)
		if t.Failed() {
			t.Fatal("case", i)
		}
	}
	for i, x := range []struct {
		t    api.Term // its last node is what is made a cell that stands for none
		want api.Errno
	}{
		{deepOver(atom("last"), api.MaxDepth-1), api.ErrForm},
		{deepOver(atom("last"), api.MaxDepth), api.ErrLong},
		{wide(api.MaxNodes, atom("last")), api.ErrForm},
		{wide(api.MaxNodes+1, atom("last")), api.ErrLong},
	} {
		h, a, c := laidOn(t, x.t)
		n, _ := a.Find("last")
		for at := range h.Len() {
			if was, _ := h.Get(at); was == atm(n) {
				h.Set(at, 7)
			}
		}
		unget(t, h, a, c, nil, x.want)
		if t.Failed() {
			t.Fatal("node", i)
		}
	}
}

// P7.2: a heap or a table that is nil is told ahead of all else; nothing is met.
func TestGetNil(t *testing.T) {
	h, a, vars := of(ref(0), fun(2, 1), str(1)), table(t, "f"), map[int]int64{}
	for _, c := range []api.Cell{ref(0), atm(0), small(1), 6, 7, ref(99), str(1)} {
		unget(t, nil, a, c, vars, api.ErrArg)
		unget(t, h, nil, c, vars, api.ErrArg)
		unget(t, nil, nil, c, nil, api.ErrArg)
	}
	knows(t, vars, map[int]int64{})
}

// modelGet is Get, by its own words, call by call; nodes counts what was met.
func modelGet(l []api.Cell, a *atoms.Table, c api.Cell, vars map[int]int64, nodes *int, depth int) (api.Term, api.Errno) {
	if *nodes++; *nodes > api.MaxNodes || depth > api.MaxDepth {
		return api.Term{}, api.ErrLong
	}
	steps, value := 0, func() uint64 { return uint64(c >> 3) }
	for c%8 == api.CRef && value() < uint64(len(l)) && l[value()] != c && steps < len(l) {
		c = l[value()]
		steps++
	}
	there := func(words int) bool { return value() < uint64(len(l)) && value()+uint64(words) <= uint64(len(l)) }
	switch c % 8 {
	case api.CRef:
		if !there(1) || l[value()] != c {
			return api.Term{}, api.ErrForm
		}
		n, met := vars[int(value())]
		if !met {
			n = int64(len(vars))
			vars[int(value())] = n
		}
		return v(n), api.OK
	case api.CAtm:
		if value() < uint64(a.Len()) {
			name, _ := a.Name(int(value()))
			return atom(name), api.OK
		}
	case api.CInt:
		return num(int64(c) >> 3), api.OK
	case api.CBig:
		if there(1) {
			return num(int64(l[value()])), api.OK
		}
	case api.CCpx:
		if there(2) {
			return cpx(uint64(l[value()]), uint64(l[value()+1])), api.OK
		}
	case api.CStr:
		if !there(1) || l[value()]%8 != api.CFun {
			break
		}
		at := int(value())
		n, arity := uint64(l[at])/8/256, int(l[at]/8%256)
		if arity < 1 || arity > api.MaxArity || n >= uint64(a.Len()) || !there(1+arity) {
			break
		}
		name, _ := a.Name(int(n))
		t := comp(name)
		for i := range arity {
			x, e := modelGet(l, a, l[at+1+i], vars, nodes, depth+1)
			if e != api.OK {
				return api.Term{}, e
			}
			t.Args = append(t.Args, x)
		}
		return t, api.OK
	}
	return api.Term{}, api.ErrForm
}

// P7.2: heaps of cells of all kinds, drawn, held against the words; nothing of them is changed.
func TestGetAgainstWords(t *testing.T) {
	draw := draws(2)
	met := map[api.Errno]int{}
	for range 20000 {
		n := draw(12)
		one := func() api.Cell {
			switch at := draw(n + 1); draw(12) {
			case 0, 1, 2:
				return ref(at)
			case 3, 4:
				return str(at)
			case 5:
				return atm(draw(6))
			case 6:
				return big(at)
			case 7:
				return cpl(at)
			case 8, 9, 10:
				return fun(draw(6), draw(4))
			case 11:
				return 7
			}
			return small(int64(draw(100) - 50))
		}
		h, a := heap.New(n+draw(3)), table(t, "a", "b", "c")
		for range n {
			h.Push(one())
		}
		l := cells(h)
		for at := range n + 1 {
			c := one()
			if at < n {
				c = l[at]
			}
			mine, vars, nodes := map[int]int64{99: 3}, map[int]int64{99: 3}, 0
			want, e := modelGet(l, a, c, mine, &nodes, 1)
			if e == api.OK {
				get(t, h, a, c, vars, want)
			} else {
				unget(t, h, a, c, vars, e)
			}
			met[e]++
			knows(t, vars, mine)
			holds(t, h, l...)
			has(t, a, "a", "b", "c")
			if t.Failed() {
				t.Fatalf("cell %s of %s", show(c), show(l...))
			}
		}
	}
	if met[api.OK] < 10000 || met[api.ErrForm] < 10000 || met[api.ErrLong] < 300 {
		t.Error("too few of a kind:", met)
	}
}

// P7.2, R2: what is told is new memory, also of what is shared.
func TestGetNewMemory(t *testing.T) {
	h, a := of(fun(2, 2), str(3), str(3), fun(2, 1), atm(2)), table(t, "f")
	x := comp("f", comp("f", atom("f")), comp("f", atom("f")))
	got, _ := store.Get(h, a, str(0), nil)
	got.Args[0].Args[0] = num(1)
	if !reflect.DeepEqual(got.Args[1], x.Args[1]) {
		t.Error("two lists of one answer share memory:", got)
	}
	for i := range got.Args {
		got.Args[i] = num(9)
	}
	get(t, h, a, str(0), nil, x)
	got, _ = store.Get(h, a, str(0), nil)
	_ = append(got.Args[0].Args, num(5)) // what lies behind a list is nobody's
	if !reflect.DeepEqual(got, x) {
		t.Error("a list goes on into another:", got)
	}
}

// P7.2, R7: fields that a kind gives no meaning are zero.
func TestGetPlain(t *testing.T) {
	for _, x := range []api.Term{v(0), atom("a"), num(most + 1), num(1), cpx(1, 2), comp("f", v(0), atom("a"), cpx(1, 2))} {
		h, a, c := laidOn(t, x)
		got, e := store.Get(h, a, c, nil)
		if e != api.OK || !reflect.DeepEqual(got, term.Plain(got)) {
			t.Errorf("Get = %#v, %d", got, e)
		}
	}
}

// P7.3: Get of Put is the term, its variables renamed as they are met; on one heap, however much has been laid.
func TestGetOfPut(t *testing.T) {
	h, a, draw := heap.New(api.MaxCells), atoms.New(), draws(3)
	var laid []api.Cell
	var want []api.Term
	l := []api.Term{atom(""), atom(long(api.MaxName)), v(math.MaxInt64), deepOver(v(4), api.MaxDepth-1), wide(api.MaxNodes, v(5)), list(times(api.MaxDepth-1, v(7))...),
		comp("f", times(api.MaxArity, v(3))...), comp("f", v(9), v(2), v(9), v(0)), num(most), num(least), num(most + 1), num(least - 1), cpx(math.MaxUint64, 1<<63)}
	for range 1000 {
		l = append(l, drawn(draw, 7))
	}
	for _, x := range l {
		c, e := store.Put(h, a, x, nil)
		if e != api.OK {
			t.Fatalf("Put: %d", e)
		}
		laid, want = append(laid, c), append(want, term.Rename(x))
		get(t, h, a, c, nil, term.Rename(x))
	}
	for i, c := range laid { // what was laid behind it changes nothing
		get(t, h, a, c, nil, want[i])
	}
}

// P7.3: with maps on both sides, terms that have variables in common have them in common.
func TestGetOfPutTogether(t *testing.T) {
	draw := draws(4)
	for range 300 {
		h, a, vars, back := heap.New(9000), atoms.New(), map[int64]api.Cell{}, map[int]int64{}
		whole, told := comp("w"), comp("w")
		var laid []api.Cell
		for range 4 {
			x := drawn(draw, 5)
			c, e := store.Put(h, a, x, vars)
			if e != api.OK {
				t.Fatalf("Put: %d", e)
			}
			whole.Args, laid = append(whole.Args, x), append(laid, c)
		}
		for _, c := range laid {
			x, e := store.Get(h, a, c, back)
			if e != api.OK {
				t.Fatalf("Get: %d", e)
			}
			told.Args = append(told.Args, x)
		}
		if !reflect.DeepEqual(told, term.Rename(whole)) {
			t.Fatalf("%v; want %v", told, term.Rename(whole))
		}
		if len(back) != len(vars) {
			t.Errorf("%d variables told, %d laid", len(back), len(vars))
		}
	}
}
