package unify_test

import (
	"fmt"
	"math"
	"slices"
	"testing"

	"elenchus/api"
	"elenchus/atoms"
	"elenchus/heap"
	"elenchus/store"
	"elenchus/term"
	"elenchus/trail"
	"elenchus/unify"
)

// The cells, spelt out: a value times 8, and the tag.
func ref(at int) api.Cell       { return api.Cell(at)*8 + 0 }
func str(at int) api.Cell       { return api.Cell(at)*8 + 1 }
func atm(n int) api.Cell        { return api.Cell(n)*8 + 2 }
func small(n int64) api.Cell    { return api.Cell(n)*8 + 3 }
func big(at int) api.Cell       { return api.Cell(at)*8 + 4 }
func cpl(at int) api.Cell       { return api.Cell(at)*8 + 5 }
func fun(n, arity int) api.Cell { return api.Cell(n*256+arity)*8 + 6 }

// none stands for no term, wherever it stands.
const none api.Cell = 7

// far is the greatest value of a cell.
const far = 1<<61 - 1

// of is a heap of just these cells, with no room for more.
func of(l ...api.Cell) *heap.Heap {
	h := heap.New(len(l))
	for _, c := range l {
		h.Push(c)
	}
	return h
}

// lay pushes these cells, and is the first one's place.
func lay(t *testing.T, h *heap.Heap, l ...api.Cell) int {
	t.Helper()
	first := h.Len()
	for _, c := range l {
		if _, e := h.Push(c); e != api.OK {
			t.Fatalf("Push behind %d cells: %d", h.Len(), e)
		}
	}
	return first
}

// compound lays one, and is the cell that stands for it.
func compound(t *testing.T, h *heap.Heap, name int, args ...api.Cell) api.Cell {
	t.Helper()
	return str(lay(t, h, append([]api.Cell{fun(name, len(args))}, args...)...))
}

// variable lays a new one.
func variable(t *testing.T, h *heap.Heap) api.Cell {
	t.Helper()
	return ref(lay(t, h, ref(h.Len())))
}

// cells is what a heap has.
func cells(h *heap.Heap) []api.Cell {
	l := []api.Cell{}
	for at := range h.Len() {
		c, _ := h.Get(at)
		l = append(l, c)
	}
	return l
}

// show tells of each cell its tag, by a letter, and its value.
func show(l ...api.Cell) string {
	s := ""
	for _, c := range l[:min(len(l), 60)] {
		s += fmt.Sprintf("%c%d ", "rsaibcf?"[c%8], uint64(c/8))
	}
	return s
}

// holds: h is to have just these cells.
func holds(t *testing.T, h *heap.Heap, want ...api.Cell) {
	t.Helper()
	if got := cells(h); !slices.Equal(got, want) {
		t.Errorf("cells %s; want %s", show(got...), show(want...))
	}
}

// before is a trail that keeps two writes already, which left the cell at 0 as it was.
func before(h *heap.Heap) *trail.Trail {
	x := trail.New()
	c, _ := h.Get(0)
	x.Set(h, 0, 12345)
	x.Set(h, 0, c)
	return x
}

// bound: so many writes of x stand behind those of before; without them the cells are to be was.
func bound(t *testing.T, x *trail.Trail, h *heap.Heap, writes int, was []api.Cell) {
	t.Helper()
	if n := x.Undo(h, 2); n != writes {
		t.Errorf("%d writes; want %d", n, writes)
	}
	holds(t, h, was...)
}

// binds: Bind is to be true, to write once where a cell is another then, else not at all, and to leave these cells.
func binds(t *testing.T, h *heap.Heap, a, b api.Cell, want ...api.Cell) {
	t.Helper()
	was, x := cells(h), before(h)
	if !unify.Bind(h, x, a, b) {
		t.Errorf("Bind(%s, %s) is false", show(a), show(b))
	}
	holds(t, h, want...)
	writes := 1
	if slices.Equal(was, want) {
		writes = 0
	}
	bound(t, x, h, writes, was)
}

// unbound: Bind is to be false, and to change nothing.
func unbound(t *testing.T, h *heap.Heap, a, b api.Cell) {
	t.Helper()
	was, x := cells(h), before(h)
	if unify.Bind(h, x, a, b) {
		t.Errorf("Bind(%s, %s) is true", show(a), show(b))
	}
	holds(t, h, was...)
	bound(t, x, h, 0, was)
}

// oneWay: Unify is to make a and b one by so many writes; these are undone again behind look.
func oneWay(t *testing.T, h *heap.Heap, a, b api.Cell, writes int, look func()) {
	t.Helper()
	was, x := cells(h), before(h)
	if ok, e := unify.Unify(h, x, a, b); !ok || e != api.OK {
		t.Errorf("Unify(%s, %s) = %t, %d; want true", show(a), show(b), ok, e)
	}
	look()
	bound(t, x, h, writes, was)
}

// makes: Unify is to make a and b one, either way, by so many writes, which leave these cells.
func makes(t *testing.T, h *heap.Heap, a, b api.Cell, writes int, want ...api.Cell) {
	t.Helper()
	look := func() { t.Helper(); holds(t, h, want...) }
	oneWay(t, h, a, b, writes, look)
	oneWay(t, h, b, a, writes, look)
}

// refuses: Unify is to be false beside e, either way, and to undo all that it did, and no more.
func refuses(t *testing.T, h *heap.Heap, a, b api.Cell, e api.Errno) {
	t.Helper()
	for _, p := range [][2]api.Cell{{a, b}, {b, a}} {
		was, x := cells(h), before(h)
		if ok, got := unify.Unify(h, x, p[0], p[1]); ok || got != e {
			t.Errorf("Unify(%s, %s) = %t, %d; want false, %d", show(p[0]), show(p[1]), ok, got, e)
		}
		holds(t, h, was...)
		bound(t, x, h, 0, was)
	}
}

// occurs: what Occurs is to tell; it changes nothing.
func occurs(t *testing.T, h *heap.Heap, v, c api.Cell, want bool, e api.Errno) {
	t.Helper()
	was := cells(h)
	if ok, got := unify.Occurs(h, v, c); ok != want || got != e {
		t.Errorf("Occurs(%s, %s) = %t, %d; want %t, %d", show(v), show(c), ok, got, want, e)
	}
	holds(t, h, was...)
}

// P8.1: of two variables the one with the greater place is bound, on whichever side it stands.
func TestBindVariables(t *testing.T) {
	h := of(ref(0), ref(1), ref(2))
	binds(t, h, ref(0), ref(1), ref(0), ref(0), ref(2))
	binds(t, h, ref(1), ref(0), ref(0), ref(0), ref(2))
	binds(t, h, ref(1), ref(2), ref(0), ref(1), ref(1))
	binds(t, h, ref(2), ref(1), ref(0), ref(1), ref(1))
	binds(t, h, ref(2), ref(0), ref(0), ref(1), ref(0))
	binds(t, h, ref(0), ref(2), ref(0), ref(1), ref(0))
}

// P8.1: one variable twice: true, and nothing is bound.
func TestBindOne(t *testing.T) {
	h := of(ref(0), ref(1), ref(1), ref(2))
	binds(t, h, ref(0), ref(0), cells(h)...)
	binds(t, h, ref(1), ref(1), cells(h)...)
	binds(t, h, ref(3), ref(1), cells(h)...)
	binds(t, h, ref(1), ref(3), cells(h)...)
	binds(t, h, ref(2), ref(3), cells(h)...)
}

// P8.1: the cell that is bound is the one behind a row of references, and so is what it is bound to.
func TestBindRows(t *testing.T) {
	h := of(ref(3), ref(0), ref(1), ref(3), ref(5), ref(5), atm(9), ref(6), ref(7))
	binds(t, h, ref(2), ref(8), ref(3), ref(0), ref(1), atm(9), ref(5), ref(5), atm(9), ref(6), ref(7))
	binds(t, h, ref(2), ref(4), ref(3), ref(0), ref(1), ref(3), ref(5), ref(3), atm(9), ref(6), ref(7))
	binds(t, h, ref(4), ref(2), ref(3), ref(0), ref(1), ref(3), ref(5), ref(3), atm(9), ref(6), ref(7))
	unbound(t, h, ref(8), ref(0))
	unbound(t, h, ref(6), ref(0))
}

// P8.1: a variable is bound to a cell of any other kind as it is, whatever it stands for.
func TestBindToOthers(t *testing.T) {
	for _, c := range []api.Cell{str(1), atm(0), atm(9), small(0), small(-1), big(3), cpl(3), fun(2, 1), none, none + 8, str(99), big(far), ref(99), ref(far), math.MaxUint64} {
		h := of(ref(0), fun(2, 1), ref(0), 4, 5)
		binds(t, h, ref(0), c, c, fun(2, 1), ref(0), 4, 5)
		binds(t, h, ref(2), c, c, fun(2, 1), ref(0), 4, 5)
		unbound(t, h, c, ref(0))
		unbound(t, h, c, c)
		unbound(t, h, c, atm(9))
	}
}

// P8.1: a ring of references is no variable.
func TestBindRing(t *testing.T) {
	h := of(ref(1), ref(2), ref(0), ref(3))
	unbound(t, h, ref(0), atm(9))
	unbound(t, h, ref(1), ref(3))
	binds(t, h, ref(3), ref(1), ref(1), ref(2), ref(0), h.Deref(ref(1)))
}

// P8.1, P8.2: no heap, no trail.
func TestNil(t *testing.T) {
	h, x := of(ref(0), ref(1), atm(9)), trail.New()
	var noHeap *heap.Heap
	var noTrail *trail.Trail
	for _, c := range []api.Cell{ref(0), ref(1), atm(9), none} {
		for _, d := range []api.Cell{ref(0), ref(1), atm(9), none} {
			if unify.Bind(noHeap, x, c, d) || unify.Bind(h, noTrail, c, d) || unify.Bind(noHeap, noTrail, c, d) {
				t.Error("Bind", show(c, d))
			}
			for i, y := range []struct {
				h *heap.Heap
				x *trail.Trail
			}{{noHeap, x}, {h, noTrail}, {noHeap, noTrail}} {
				if ok, e := unify.Unify(y.h, y.x, c, d); ok || e != api.ErrArg {
					t.Error("Unify", i, show(c, d), ok, e)
				}
			}
			if ok, e := unify.Occurs(noHeap, c, d); ok || e != api.ErrArg {
				t.Error("Occurs", show(c, d), ok, e)
			}
		}
	}
	holds(t, h, ref(0), ref(1), atm(9))
	if x.Len() != 0 {
		t.Error(x.Len(), "writes")
	}
}

// P8.1, P8.2: a heap and a trail that New did not make have no cell and no write.
func TestZero(t *testing.T) {
	var h heap.Heap
	var x trail.Trail
	if unify.Bind(&h, &x, ref(0), atm(9)) {
		t.Error("Bind")
	}
	if ok, e := unify.Unify(&h, &x, atm(9), atm(9)); !ok || e != api.OK {
		t.Error(ok, e)
	}
	if ok, e := unify.Unify(&h, &x, ref(0), ref(0)); ok || e != api.ErrForm {
		t.Error(ok, e)
	}
	if ok, e := unify.Occurs(&h, ref(0), ref(0)); ok || e != api.OK {
		t.Error(ok, e)
	}
}

// P8.2: Occurs finds the variable as the term itself, as an argument, deep within it, behind rows of references.
func TestOccurs(t *testing.T) {
	h := of(ref(0), ref(1), // the variables
		fun(9, 2), atm(8), ref(0), // 2: 9(8, X)
		fun(9, 3), small(1), str(2), atm(7), // 5: 9(1, 9(8, X), 7)
		fun(9, 1), ref(10), // 9: 9(_)
		ref(0), ref(11), fun(9, 1), ref(12), // 11 to 14: X, X, 9(X)
		ref(5), ref(15), str(5), ref(17), ref(18)) // 15: no term; 17 to 19: 9(1, 9(8, X), 7)
	for _, v := range []api.Cell{ref(0), ref(11), ref(12)} {
		for _, c := range []api.Cell{ref(0), ref(12), str(2), str(5), str(13), ref(17), ref(19)} {
			occurs(t, h, v, c, true, api.OK)
		}
		for _, c := range []api.Cell{ref(1), ref(10), str(9), atm(0), small(0), big(0), cpl(0)} {
			occurs(t, h, v, c, false, api.OK)
		}
	}
	for _, c := range []api.Cell{ref(0), str(2), str(5), str(9), ref(19)} {
		occurs(t, h, ref(1), c, false, api.OK)
	}
	occurs(t, h, ref(10), str(9), true, api.OK)
}

// P8.2: what is no variable occurs nowhere, and what it might occur in is not looked at.
func TestOccursOfNone(t *testing.T) {
	h := of(fun(9, 1), ref(1), atm(9), ref(4), ref(3), ref(2))
	for _, v := range []api.Cell{str(0), atm(9), small(1), big(0), cpl(0), fun(9, 1), none, ref(0), ref(2), ref(3), ref(5), ref(99), ref(far), str(99)} {
		for _, c := range []api.Cell{v, str(0), ref(1), atm(9), none, ref(99)} {
			occurs(t, h, v, c, false, api.OK)
		}
	}
}

// P8.2: Occurs goes depth first, and looks at nothing behind the variable.
func TestOccursMetFirst(t *testing.T) {
	h := of(ref(0),
		fun(9, 2), ref(0), none, // 1
		fun(9, 2), none, ref(0), // 4
		fun(9, 2), str(1), none, // 7
		fun(9, 2), str(4), ref(0), // 10
		fun(9, 3), atm(1), str(14), ref(0), fun(9, 2), atm(1), none) // 13; 14 is no functor
	occurs(t, h, ref(0), str(1), true, api.OK)
	occurs(t, h, ref(0), str(4), false, api.ErrForm)
	occurs(t, h, ref(0), str(7), true, api.OK)
	occurs(t, h, ref(0), str(10), false, api.ErrForm)
	occurs(t, h, ref(0), str(13), false, api.ErrForm)
	occurs(t, h, ref(0), str(17), false, api.ErrForm)
}

// P8.2: each kind of term is the same as itself alone.
func TestKinds(t *testing.T) {
	h := of(1<<60, 1<<60+1, 0, 1, 0, 2, 1<<63, 1, // 0 to 7: words
		fun(9, 1), atm(9), fun(8, 1), atm(9), fun(9, 2), atm(9), atm(9), fun(9, 1), atm(8)) // 8, 10, 12, 15: compounds
	l := []api.Cell{atm(0), atm(9), atm(8), small(0), small(9), small(-1), big(0), big(1), cpl(2), cpl(4), cpl(6), cpl(3), str(8), str(10), str(12), str(15)}
	for i, a := range l {
		for j, b := range l {
			if i == j {
				makes(t, h, a, b, 0, cells(h)...)
			} else {
				refuses(t, h, a, b, api.OK)
			}
		}
	}
}

// P8.2: atoms are the same by their numbers, of which a heap knows no end.
func TestAtoms(t *testing.T) {
	h := of(atm(9))
	for _, n := range []int{0, 1, api.MaxAtoms - 1, api.MaxAtoms, 1 << 32, far} {
		makes(t, h, atm(n), atm(n), 0, atm(9))
		refuses(t, h, atm(n), atm(n^1), api.OK)
		refuses(t, h, atm(n), atm(n^1<<60), api.OK)
	}
}

// P8.2: ints are the same by their numbers, as CInt and as CBig.
func TestInts(t *testing.T) {
	words := []api.Cell{5, math.MaxUint64, 1<<60 - 1, 1 << 60, math.MaxUint64 - (1<<60 - 1), math.MaxUint64 - 1<<60, math.MaxInt64, 1 << 63, 1<<61 + 5, 5}
	h := of(words...)
	smalls := map[int]int64{0: 5, 1: -1, 2: 1<<60 - 1, 4: -1 << 60, 9: 5}
	for at, w := range words {
		for n, u := range words {
			if w == u {
				makes(t, h, big(at), big(n), 0, words...)
			} else {
				refuses(t, h, big(at), big(n), api.OK)
			}
		}
		for n, i := range smalls {
			if w == words[n] {
				makes(t, h, big(at), small(i), 0, words...)
			} else {
				refuses(t, h, big(at), small(i), api.OK)
			}
		}
	}
	makes(t, h, small(-1<<60), small(-1<<60), 0, words...)
	refuses(t, h, small(-1<<60), small(1<<60-1), api.OK)
}

// P8.2: complex numbers are the same by their words: those of no number too, and noughts of unlike signs are not.
func TestComplex(t *testing.T) {
	words := []api.Cell{1, 2, 1, 2, 1, 3, 4, 2, 0, 0, 0, 1 << 63, 1 << 63, 0, 0x7ff8000000000001, 0x7ff8000000000001, 0x7ff8000000000001, 0x7ff8000000000001}
	h := of(words...)
	for a := 0; a < len(words); a += 2 {
		for b := 0; b < len(words); b += 2 {
			if words[a] == words[b] && words[a+1] == words[b+1] {
				makes(t, h, cpl(a), cpl(b), 0, words...)
			} else {
				refuses(t, h, cpl(a), cpl(b), api.OK)
			}
		}
	}
}

// P8.2: compounds of one name and unlike arity, of one arity and unlike names; each argument tells.
func TestCompounds(t *testing.T) {
	h := heap.New(5000)
	args := []api.Cell{}
	for n := 1; n <= api.MaxArity; n++ {
		args = append(args, atm(n))
		a, b := compound(t, h, 9, args...), compound(t, h, 9, args...)
		makes(t, h, a, b, 0, cells(h)...)
		refuses(t, h, a, compound(t, h, 8, args...), api.OK)
		if n > 1 {
			refuses(t, h, a, compound(t, h, 9, args[1:]...), api.OK)
			refuses(t, h, a, compound(t, h, 9, args[:n-1]...), api.OK)
		}
	}
	for n := range args {
		other := slices.Clone(args)
		other[n] = atm(77)
		refuses(t, h, compound(t, h, 9, args...), compound(t, h, 9, other...), api.OK)
	}
	for _, name := range []int{0, 1, api.MaxAtoms - 1} {
		makes(t, h, compound(t, h, name, atm(1)), compound(t, h, name, atm(1)), 0, cells(h)...)
	}
	refuses(t, h, atm(9), compound(t, h, 9, atm(1)), api.OK)
}

// P8.2: a variable is bound to whatever stands on the other side; of two the greater place.
func TestVariables(t *testing.T) {
	for _, c := range []api.Cell{atm(9), small(4), big(5), cpl(5), str(3)} {
		h := of(ref(0), ref(0), ref(2), fun(9, 1), ref(2), 5, 6)
		makes(t, h, ref(0), c, 1, c, ref(0), ref(2), fun(9, 1), ref(2), 5, 6)
		makes(t, h, ref(1), c, 1, c, ref(0), ref(2), fun(9, 1), ref(2), 5, 6)
	}
	h := of(ref(0), ref(1), ref(1), ref(2))
	makes(t, h, ref(0), ref(1), 1, ref(0), ref(0), ref(1), ref(2))
	makes(t, h, ref(0), ref(3), 1, ref(0), ref(0), ref(1), ref(2))
	makes(t, h, ref(0), ref(0), 0, cells(h)...)
	makes(t, h, ref(1), ref(3), 0, cells(h)...)
}

// P8.2: variables on both sides, one met more than once, bound by what stands ahead.
func TestVariablesWithin(t *testing.T) {
	h := of(fun(9, 2), ref(1), atm(5), fun(9, 2), atm(4), ref(5)) // the document's own: f(X, b), f(a, Y)
	makes(t, h, str(0), str(3), 2, fun(9, 2), atm(4), atm(5), fun(9, 2), atm(4), atm(5))
	h = of(fun(9, 2), ref(1), ref(1), fun(9, 2), atm(4), atm(4)) // f(X, X), f(a, a)
	makes(t, h, str(0), str(3), 1, fun(9, 2), atm(4), ref(1), fun(9, 2), atm(4), atm(4))
	h = of(fun(9, 2), ref(1), ref(1), fun(9, 2), atm(4), atm(5)) // f(X, X), f(a, b)
	refuses(t, h, str(0), str(3), api.OK)
	h = of(fun(9, 2), ref(1), ref(2), fun(9, 2), ref(2), atm(4)) // f(X, Y), f(Y, a): Y is bound to X, so that X is what a binds
	makes(t, h, str(0), str(3), 2, fun(9, 2), atm(4), ref(1), fun(9, 2), ref(2), atm(4))
}

// P8.2: a variable that occurs in the other term, as an argument of its own or deep within it, on either side.
func TestOccursWithin(t *testing.T) {
	h := of(ref(0), fun(9, 1), ref(0), fun(9, 2), atm(1), str(1), ref(6), fun(9, 1), str(3), // X; 1: s(X); 3: s(1, s(X)); 7: s(s(1, s(X)))
		fun(9, 1), ref(10)) // 9: s(Z), Z's own cell its argument
	for _, c := range []api.Cell{str(1), str(3), str(7)} {
		refuses(t, h, ref(0), c, api.OK)
		refuses(t, h, ref(2), c, api.OK)
	}
	refuses(t, h, ref(10), str(9), api.OK)
	oneWay(t, h, ref(6), str(7), 1, func() {})
	h = of(ref(0), ref(1), fun(9, 2), ref(0), ref(1), fun(9, 2), str(8), str(10), fun(8, 1), ref(1), fun(8, 1), ref(0))
	refuses(t, h, str(2), str(5), api.OK) // f(X, Y), f(s(Y), s(X)): by what is bound ahead
}

// P8.2: pairs are held depth first, the first arguments first: what differs ahead of a cell without a term is met, what differs behind it is not.
func TestMetFirst(t *testing.T) {
	inner := func(h *heap.Heap, c api.Cell) api.Cell { return compound(t, h, 9, c, atm(1)) }
	for i, x := range []struct {
		a, b func(h *heap.Heap) []api.Cell
		e    api.Errno
	}{
		{func(*heap.Heap) []api.Cell { return []api.Cell{atm(1), none} }, func(*heap.Heap) []api.Cell { return []api.Cell{atm(2), atm(2)} }, api.OK},
		{func(*heap.Heap) []api.Cell { return []api.Cell{none, atm(1)} }, func(*heap.Heap) []api.Cell { return []api.Cell{atm(2), atm(2)} }, api.ErrForm},
		{func(h *heap.Heap) []api.Cell { return []api.Cell{inner(h, atm(1)), none} }, func(h *heap.Heap) []api.Cell { return []api.Cell{inner(h, atm(2)), none} }, api.OK},
		{func(h *heap.Heap) []api.Cell { return []api.Cell{inner(h, none), atm(1)} }, func(h *heap.Heap) []api.Cell { return []api.Cell{inner(h, atm(2)), atm(2)} }, api.ErrForm},
		{func(h *heap.Heap) []api.Cell { return []api.Cell{inner(h, none), atm(1)} }, func(h *heap.Heap) []api.Cell { return []api.Cell{atm(9), atm(1)} }, api.OK},
		{func(h *heap.Heap) []api.Cell { return []api.Cell{inner(h, none), atm(1)} }, func(h *heap.Heap) []api.Cell { return []api.Cell{compound(t, h, 8, none, none), none} }, api.OK},
		{func(h *heap.Heap) []api.Cell { return []api.Cell{inner(h, none), atm(1)} }, func(h *heap.Heap) []api.Cell { return []api.Cell{compound(t, h, 9, none), none} }, api.OK},
		{func(h *heap.Heap) []api.Cell { return []api.Cell{inner(h, none), atm(1)} }, func(h *heap.Heap) []api.Cell { return []api.Cell{variable(t, h), atm(2)} }, api.ErrForm},
		{func(h *heap.Heap) []api.Cell { return []api.Cell{inner(h, atm(1)), atm(1)} }, func(h *heap.Heap) []api.Cell { return []api.Cell{variable(t, h), atm(2)} }, api.OK},
		{func(h *heap.Heap) []api.Cell { return []api.Cell{atm(1), atm(2), atm(3), none} }, func(h *heap.Heap) []api.Cell { return []api.Cell{atm(1), atm(2), atm(4), none} }, api.OK},
	} {
		h := heap.New(100)
		h.Push(atm(1))
		a, b := x.a(h), x.b(h)
		refuses(t, h, compound(t, h, 9, a...), compound(t, h, 9, b...), x.e)
		if t.Failed() {
			t.Fatal("case", i)
		}
	}
}

// P8.2: in Occurs too what is met first counts: the variable, or the cell without a term behind or ahead of it.
func TestMetFirstWithin(t *testing.T) {
	h := of(ref(0), fun(9, 2), ref(0), none, fun(9, 2), none, ref(0), fun(9, 2), atm(1), none)
	refuses(t, h, ref(0), str(1), api.OK)
	refuses(t, h, ref(0), str(4), api.ErrForm)
	refuses(t, h, ref(0), str(7), api.ErrForm)
	for _, x := range []struct {
		c api.Cell
		e api.Errno
	}{{str(1), api.OK}, {str(4), api.ErrForm}, {str(7), api.ErrForm}} {
		g := heap.New(100)
		lay(t, g, cells(h)...)
		refuses(t, g, compound(t, g, 9, ref(0), atm(1)), compound(t, g, 9, x.c, atm(2)), x.e)
		refuses(t, g, compound(t, g, 9, atm(1), ref(0)), compound(t, g, 9, atm(2), x.c), api.OK)
	}
}

// P8.2: each cell that stands for no term, wherever a term is looked for.
func TestForm(t *testing.T) {
	base := []api.Cell{ref(0), ref(1), // 0: X, Y
		fun(9, 0), atm(1), // 2: no argument
		fun(9, api.MaxArity+1), atm(1), // 4: too many
		fun(api.MaxAtoms, 1), atm(1), // 6: no atom
		ref(9), ref(10), ref(8), // 8 to 10: a ring
		ref(12), ref(11)} // 11, 12: a ring
	base = append(base, make([]api.Cell, api.MaxArity)...) // so that 4's arguments would all be there
	last := len(base) + 1
	base = append(base, fun(9, 2), atm(1)) // the last functor has one of its two arguments
	for i, c := range []api.Cell{
		ref(last + 1), ref(99), ref(far), ref(8), ref(9), ref(10), ref(11), ref(12),
		str(0), str(2), str(3), str(4), str(6), str(8), str(last - 1), str(last), str(last + 1), str(far),
		big(last + 1), big(far), cpl(last), cpl(last + 1), cpl(far),
		fun(9, 1), fun(9, 2), fun(0, 0), none, none + 8, math.MaxUint64,
	} {
		h := of(base...)
		for _, d := range []api.Cell{ref(0), ref(1), atm(1), small(1), big(0), cpl(0), c, none} {
			refuses(t, h, c, d, api.ErrForm)
		}
		occurs(t, h, ref(0), c, false, api.ErrForm)
		formAsArgument(t, base, c)
		if t.Failed() {
			t.Fatalf("case %d: %s", i, show(c))
		}
	}
}

// formAsArgument: c stands for no term of a heap of base; the compounds are laid ahead of it, so that its last cells are the last ones still.
func formAsArgument(t *testing.T, base []api.Cell, c api.Cell) {
	t.Helper()
	const front = 40
	moved := make([]api.Cell, front)
	for _, d := range append(slices.Clone(base), c) {
		if d < far && slices.Contains([]api.Cell{0, 1, 4, 5}, d%8) { // a place, and one that may be moved
			d += front * 8
		}
		moved = append(moved, d)
	}
	c, moved = moved[len(moved)-1], moved[:len(moved)-1]
	x := ref(front)
	copy(moved, []api.Cell{
		fun(9, 3), atm(1), c, atm(2), // 0
		fun(9, 3), atm(1), atm(5), atm(2), // 4
		fun(9, 3), atm(2), atm(5), atm(2), // 8: differs ahead
		fun(9, 3), atm(1), atm(5), atm(3), // 12: differs behind
		fun(9, 3), x, atm(5), atm(3), // 16: binds ahead, differs behind
		fun(9, 2), c, x, // 20
		fun(9, 2), x, c, // 23
		fun(9, 3), ref(27), ref(28), atm(3), // 26: binds c's own pair
		ref(30)}) // 30
	h := of(moved...)
	refuses(t, h, str(0), str(4), api.ErrForm)
	refuses(t, h, str(0), str(8), api.OK)
	refuses(t, h, str(0), str(12), api.ErrForm)
	refuses(t, h, str(0), str(16), api.ErrForm)
	refuses(t, h, str(0), str(26), api.ErrForm)
	refuses(t, h, str(0), str(0), api.ErrForm)
	refuses(t, h, ref(30), str(0), api.ErrForm)
	refuses(t, h, x, str(20), api.ErrForm)
	refuses(t, h, x, str(23), api.OK)
	refuses(t, h, atm(9), str(0), api.OK)
	occurs(t, h, x, str(20), false, api.ErrForm)
	occurs(t, h, x, str(23), true, api.OK)
	occurs(t, h, ref(30), str(0), false, api.ErrForm)
}

// P8.2: where the first pair that differs stands behind others that were bound, all of them are undone; the writes ahead of the call stay.
func TestUndone(t *testing.T) {
	h := heap.New(2000)
	vars, to := []api.Cell{}, []api.Cell{}
	for n := range api.MaxArity - 1 {
		vars, to = append(vars, variable(t, h)), append(to, atm(n))
	}
	to[3], to[4] = vars[7], compound(t, h, 9, vars[0], atm(5))
	to[5], to[6] = vars[5], vars[3]
	ring := ref(lay(t, h, ref(h.Len()+1), ref(h.Len())))
	self := str(lay(t, h, fun(9, 1), str(h.Len())))
	args := func(l []api.Cell, last api.Cell) api.Cell { return compound(t, h, 9, append(slices.Clone(l), last)...) }
	refuses(t, h, args(vars, atm(1)), args(to, atm(2)), api.OK)
	refuses(t, h, args(vars, vars[0]), args(to, atm(2)), api.OK)
	refuses(t, h, args(vars, atm(1)), args(to, none), api.ErrForm)
	refuses(t, h, args(vars, atm(1)), args(to, ring), api.ErrForm)
	refuses(t, h, args(vars, self), args(to, self), api.ErrLong)
	refuses(t, h, args(vars, variable(t, h)), args(to, self), api.ErrLong)
	v := variable(t, h)
	refuses(t, h, args(vars, v), args(to, compound(t, h, 9, v)), api.OK)
	oneWay(t, h, args(vars, atm(1)), args(to, atm(1)), api.MaxArity-2, func() {})
}

// P8.2: a pair that can't be made one leaves what an earlier call bound, and its writes.
func TestEarlierStays(t *testing.T) {
	h, x := of(ref(0), ref(1), fun(9, 2), ref(1), atm(4), fun(9, 2), atm(3), atm(5)), trail.New()
	if ok, e := unify.Unify(h, x, ref(0), atm(8)); !ok || e != api.OK || x.Len() != 1 {
		t.Fatal(ok, e, x.Len())
	}
	if ok, e := unify.Unify(h, x, str(2), str(5)); ok || e != api.OK || x.Len() != 1 {
		t.Fatal(ok, e, x.Len())
	}
	holds(t, h, atm(8), ref(1), fun(9, 2), ref(1), atm(4), fun(9, 2), atm(3), atm(5))
	if n := x.Undo(h, 0); n != 1 {
		t.Error(n)
	}
	holds(t, h, ref(0), ref(1), fun(9, 2), ref(1), atm(4), fun(9, 2), atm(3), atm(5))
}

// tree lays a compound of just so many nodes (at least two), none of them shared, of which the last that is met is last.
func tree(t *testing.T, h *heap.Heap, nodes int, last api.Cell) api.Cell {
	t.Helper()
	for have := 1; have < nodes; {
		n := min(api.MaxArity, nodes-have)
		args := []api.Cell{}
		for range n - 1 {
			args = append(args, atm(1))
		}
		last = compound(t, h, 9, append(args, last)...)
		have += n
	}
	return last
}

// row lays a compound of just so many nodes, each of them the one argument of the one ahead of it.
func row(t *testing.T, h *heap.Heap, nodes int, last api.Cell) api.Cell {
	t.Helper()
	for range nodes - 1 {
		last = compound(t, h, 9, last)
	}
	return last
}

// great is a heap with room for all that these tests lay.
func great() *heap.Heap {
	h := heap.New(api.MaxCells)
	h.Push(atm(1))
	return h
}

// P8.2: Unify visits MaxVisits pairs, and no more; what the one behind them would tell does not count.
func TestVisits(t *testing.T) {
	for i, lay := range []func(*testing.T, *heap.Heap, int, api.Cell) api.Cell{tree, row} {
		h := great()
		a := lay(t, h, api.MaxVisits, atm(2))
		makes(t, h, a, a, 0, cells(h)...)
		over := compound(t, h, 9, a)
		refuses(t, h, over, over, api.ErrLong)
		for _, x := range []struct {
			c api.Cell
			e api.Errno
		}{{atm(3), api.OK}, {none, api.ErrForm}} {
			h := great()
			a, b := lay(t, h, api.MaxVisits, atm(2)), lay(t, h, api.MaxVisits, x.c)
			refuses(t, h, a, b, x.e)
			refuses(t, h, compound(t, h, 9, a), compound(t, h, 9, b), api.ErrLong)
		}
		if t.Failed() {
			t.Fatal("case", i)
		}
	}
}

// P8.2: a pair of variables is one visit, one of a variable and another term one and those of Occurs.
func TestVisitsOfVariables(t *testing.T) {
	for _, x := range []struct{ within, left int }{{0, 0}, {1, 1}, {2, 2}, {300, 300}} {
		h := great()
		v, w := variable(t, h), variable(t, h)
		if x.within == 1 {
			w = atm(5)
		} else if x.within > 1 {
			w = tree(t, h, x.within, atm(5))
		}
		nodes := api.MaxVisits - x.left
		a, b := tree(t, h, nodes, v), tree(t, h, nodes, w)
		oneWay(t, h, a, b, 1, func() {})
		oneWay(t, h, b, a, 1, func() {})
		refuses(t, h, compound(t, h, 9, a), compound(t, h, 9, b), api.ErrLong)
		if t.Failed() {
			t.Fatal(x.within, "nodes in Occurs")
		}
	}
}

// P8.2: the visits of all of a call's Occurs count together.
func TestVisitsTogether(t *testing.T) {
	h := great()
	v, w := variable(t, h), variable(t, h)
	x, y := tree(t, h, 40000, atm(5)), tree(t, h, api.MaxVisits-40003, atm(5))
	more := tree(t, h, api.MaxVisits-40002, atm(5))
	oneWay(t, h, compound(t, h, 9, v, w), compound(t, h, 9, x, y), 2, func() {})
	oneWay(t, h, compound(t, h, 9, x, w), compound(t, h, 9, v, y), 2, func() {})
	refuses(t, h, compound(t, h, 9, v, w), compound(t, h, 9, x, more), api.ErrLong)
	refuses(t, h, compound(t, h, 9, v, w, v), compound(t, h, 9, x, y, x), api.ErrLong)
}

// P8.2: Occurs goes through MaxVisits cells, and no more, by itself and as a part of Unify.
func TestVisitsOfOccurs(t *testing.T) {
	for _, lay := range []func(*testing.T, *heap.Heap, int, api.Cell) api.Cell{tree, row} {
		for _, x := range []struct {
			last  api.Cell
			found bool
			e     api.Errno
		}{{atm(5), false, api.OK}, {ref(0), true, api.OK}, {none, false, api.ErrForm}} {
			h := heap.New(api.MaxCells)
			v := variable(t, h)
			c := lay(t, h, api.MaxVisits, x.last)
			occurs(t, h, v, c, x.found, x.e)
			occurs(t, h, v, compound(t, h, 9, c), false, api.ErrLong)
			refuses(t, h, v, c, api.ErrLong) // the pair is a visit too
		}
	}
	for last, e := range map[api.Cell]api.Errno{ref(0): api.OK, none: api.ErrForm} {
		h := heap.New(api.MaxCells)
		v := variable(t, h)
		refuses(t, h, v, tree(t, h, api.MaxVisits-1, last), e)
		refuses(t, h, v, tree(t, h, api.MaxVisits, last), api.ErrLong)
	}
}

// P8.2: what is visited more than once counts each time, and a row of references does not count.
func TestVisitsOfShared(t *testing.T) {
	h := great()
	v := variable(t, h)
	half := tree(t, h, api.MaxVisits/2-1, atm(5))
	for range 50 {
		half = ref(lay(t, h, half))
	}
	three := compound(t, h, 9, half, half) // MaxVisits - 1 nodes
	four := compound(t, h, 9, three)
	occurs(t, h, v, four, false, api.OK)
	oneWay(t, h, four, four, 0, func() {})
	oneWay(t, h, v, three, 1, func() {})
	refuses(t, h, v, four, api.ErrLong)
	five := compound(t, h, 9, four)
	occurs(t, h, v, five, false, api.ErrLong)
	refuses(t, h, five, five, api.ErrLong)
}

// P8.2: cells that stand in themselves end at the bound of visits, if nothing ahead of it tells.
func TestInThemselves(t *testing.T) {
	h := of(ref(0), fun(9, 1), str(1), fun(9, 1), str(3), fun(9, 2), atm(1), str(5), fun(9, 2), atm(2), str(8), fun(9, 2), ref(0), str(11), fun(9, 2), str(14), atm(1))
	wide := heap.New(99)
	self := str(lay(t, wide, ref(0)) + 1)
	lay(t, wide, append([]api.Cell{fun(9, api.MaxArity)}, slices.Repeat([]api.Cell{self}, api.MaxArity)...)...)
	refuses(t, wide, self, self, api.ErrLong)
	refuses(t, wide, ref(0), self, api.ErrLong)
	occurs(t, wide, ref(0), self, false, api.ErrLong)
	for _, c := range []api.Cell{str(1), str(3), str(5), str(8), str(14)} {
		refuses(t, h, c, c, api.ErrLong)
		refuses(t, h, ref(0), c, api.ErrLong)
		occurs(t, h, ref(0), c, false, api.ErrLong)
	}
	refuses(t, h, str(1), str(3), api.ErrLong)
	refuses(t, h, str(5), str(8), api.OK)
	refuses(t, h, ref(0), str(11), api.OK)
	occurs(t, h, ref(0), str(11), true, api.OK)
}

// P8.2: each call has all of its visits.
func TestVisitsAnew(t *testing.T) {
	h := great()
	v, c := variable(t, h), tree(t, h, api.MaxVisits-1, atm(5))
	for range 3 {
		oneWay(t, h, c, c, 0, func() {})
		oneWay(t, h, v, c, 1, func() {})
		occurs(t, h, v, c, false, api.OK)
	}
}

// verdict is how a call of the model ends ahead of its end.
type verdict struct {
	answer bool
	e      api.Errno
}

// model is the document's words by plain recursion, on a heap of its own.
type model struct {
	h      *heap.Heap
	visits int
	writes int
}

// verdict is what body comes to, or answer, if it comes to its end.
func (m *model) verdict(answer bool, body func()) (got verdict) {
	defer func() {
		if v, ok := recover().(verdict); ok {
			got = v
		}
	}()
	body()
	return verdict{answer, api.OK}
}

// visit counts one.
func (m *model) visit() {
	if m.visits == api.MaxVisits {
		panic(verdict{false, api.ErrLong})
	}
	m.visits++
}

// kind is a cell's, which is Dereffed: its tag, but of all ints CInt.
func (m *model) kind(c api.Cell) api.Cell {
	at := int(c / 8)
	own, there := m.h.Get(at)
	_, next := m.h.Get(at + 1)
	sound := false
	switch c % 8 {
	case 0:
		sound = there && own == c
	case 1:
		n := int(own / 8 % 256)
		_, all := m.h.Get(at + n)
		sound = there && own%8 == 6 && n >= 1 && n <= api.MaxArity && own/8/256 < api.MaxAtoms && all
	case 2, 3:
		sound = true
	case 4:
		sound, c = there, 3
	case 5:
		sound = there && next
	}
	if !sound {
		panic(verdict{false, api.ErrForm})
	}
	return c % 8
}

// number is an int's.
func (m *model) number(c api.Cell) int64 {
	if c%8 == 3 {
		return int64(c) >> 3
	}
	w, _ := m.h.Get(int(c / 8))
	return int64(w)
}

// args is a compound's functor and arguments' places.
func (m *model) args(c api.Cell) (api.Cell, []int) {
	functor, _ := m.h.Get(int(c / 8))
	l := []int{}
	for n := range int(functor / 8 % 256) {
		l = append(l, int(c/8)+1+n)
	}
	return functor, l
}

// bind writes over a variable.
func (m *model) bind(v, c api.Cell) {
	m.h.Set(int(v/8), c)
	m.writes++
}

// within panics where v stands in the term of c.
func (m *model) within(v, c api.Cell) {
	m.visit()
	c = m.h.Deref(c)
	if c == v {
		panic(verdict{true, api.OK})
	}
	if m.kind(c) == 1 {
		_, l := m.args(c)
		for _, at := range l {
			arg, _ := m.h.Get(at)
			m.within(v, arg)
		}
	}
}

// meet binds v to c, which is no variable, if it doesn't occur in it.
func (m *model) meet(v, c api.Cell) {
	if got := m.verdict(false, func() { m.within(v, c) }); got != (verdict{}) {
		panic(verdict{false, got.e})
	}
	m.bind(v, c)
}

// hold makes a pair one.
func (m *model) hold(a, b api.Cell) {
	m.visit()
	a, b = m.h.Deref(a), m.h.Deref(b)
	k, l := m.kind(a), m.kind(b)
	same := k == l
	switch {
	case k == 0 && l == 0 && a > b:
		m.bind(a, b)
	case k == 0 && l == 0 && a < b:
		m.bind(b, a)
	case k == 0 && l == 0:
	case k == 0:
		m.meet(a, b)
		return
	case l == 0:
		m.meet(b, a)
		return
	case k == 2 && l == 2:
		same = a == b
	case k == 3 && l == 3:
		same = m.number(a) == m.number(b)
	case k == 5 && l == 5:
		for n := range 2 {
			x, _ := m.h.Get(int(a/8) + n)
			y, _ := m.h.Get(int(b/8) + n)
			same = same && x == y
		}
	case k == 1 && l == 1:
		f, p := m.args(a)
		g, q := m.args(b)
		if same = f == g; same {
			for n := range p {
				x, _ := m.h.Get(p[n])
				y, _ := m.h.Get(q[n])
				m.hold(x, y)
			}
		}
	}
	if !same {
		panic(verdict{false, api.OK})
	}
}

// draws is a row of numbers below n, the same in each run.
func draws(seed uint64) func(n int) int {
	return func(n int) int {
		seed = seed*6364136223846793005 + 1442695040888963407
		return int(seed>>33) % n
	}
}

// drawnTerm is one of few names, numbers and variables, so that they are met again.
func drawnTerm(draw func(n int) int, depth int) api.Term {
	switch n := draw(12); {
	case n < 4:
		return api.Term{Kind: api.TVar, Int: int64(draw(5))}
	case n < 5:
		return api.Term{Kind: api.TAtom, Name: string(rune('a' + draw(2)))}
	case n < 6:
		return api.Term{Kind: api.TInt, Int: []int64{0, 1, math.MaxInt64, math.MinInt64}[draw(4)]}
	case n < 7 || depth == 1:
		return api.Term{Kind: api.TCpx, Re: uint64(draw(2)), Im: math.MaxUint64 - uint64(draw(2))}
	}
	x := api.Term{Kind: api.TComp, Name: string(rune('f' + draw(4)/3))}
	for range draw(8)/3 + 1 {
		x.Args = append(x.Args, drawnTerm(draw, depth-1))
	}
	return x
}

// drawnCell is any cell, most of them of a place near those that there are.
func drawnCell(draw func(n int) int, n int) api.Cell {
	c := api.Cell(draw(n+2))*8 + api.Cell(draw(8))
	switch draw(12) {
	case 0:
		c += api.Cell(draw(8)) << 61
	case 1:
		c = fun(draw(2), draw(4))
	}
	return c
}

// mixed is a like term, of which at times a part is another.
func mixed(draw func(n int) int, x api.Term, depth int) api.Term {
	if draw(6) == 0 || x.Kind == api.TVar && draw(2) == 0 {
		return drawnTerm(draw, depth)
	}
	y := x
	y.Args = nil
	for _, arg := range x.Args {
		y.Args = append(y.Args, mixed(draw, arg, depth-1))
	}
	return y
}

// P8.1, P8.2: terms and whatever cells, held against the document's words: the answer, each cell, how many writes.
func TestAgainstWords(t *testing.T) {
	draw := draws(8)
	met := map[verdict]int{}
	for i := range 6000 {
		h, a, vars := heap.New(400), atoms.New(), map[int64]api.Cell{}
		x := drawnTerm(draw, 4)
		p, _ := store.Put(h, a, x, vars)
		q, _ := store.Put(h, a, mixed(draw, x, 4), vars)
		for h.Len() < 10 {
			h.Push(drawnCell(draw, h.Len()))
		}
		for range draw(4) {
			h.Set(draw(h.Len()), drawnCell(draw, h.Len()))
		}
		for _, c := range []api.Cell{p, q} {
			if draw(4) == 0 && c%8 == 1 { // the last argument is the whole
				functor, _ := h.Get(int(c / 8))
				h.Set(int(c/8)+int(functor/8%256), c)
			}
		}
		if draw(10) == 0 {
			p, q = drawnCell(draw, h.Len()), drawnCell(draw, h.Len())
		}
		got := againstWords(t, h, p, q)
		met[got]++
		if t.Failed() {
			t.Fatal("case", i)
		}
	}
	for _, v := range []verdict{{true, api.OK}, {false, api.OK}, {false, api.ErrForm}, {false, api.ErrLong}} {
		if met[v] < 50 {
			t.Error("too few of", v, met)
		}
	}
}

// againstWords holds Unify, Occurs and Bind of one pair against the model, and tells what Unify answered.
func againstWords(t *testing.T, h *heap.Heap, p, q api.Cell) verdict {
	t.Helper()
	was, x := cells(h), before(h)
	m := model{h: of(was...)}
	want := m.verdict(true, func() { m.hold(p, q) })
	if !want.answer {
		m = model{h: of(was...)}
	}
	ok, e := unify.Unify(h, x, p, q)
	if (verdict{ok, e}) != want {
		t.Errorf("Unify(%s, %s) = %t, %d; want %v", show(p), show(q), ok, e, want)
	}
	holds(t, h, cells(m.h)...)
	bound(t, x, h, m.writes, was)
	v := h.Deref(p)
	own, there := h.Get(int(v / 8))
	if v%8 != 0 || !there || own != v {
		occurs(t, h, p, q, false, api.OK)
		unbound(t, h, p, q)
		return want
	}
	m = model{h: of(was...)}
	in := m.verdict(false, func() { m.within(v, q) })
	occurs(t, h, p, q, in.answer, in.e)
	w := h.Deref(q)
	if own, there := h.Get(int(w / 8)); w%8 == 0 && there && own == w && w > v {
		v, w = w, v
	}
	m.h.Set(int(v/8), w)
	binds(t, h, p, q, cells(m.h)...)
	return want
}

// answers is what variables stand for, by number: terms in which others stand.
type answers map[int64]api.Term

// of is what x stands for, ahead of its arguments.
func (s answers) of(x api.Term) api.Term {
	for x.Kind == api.TVar {
		y, ok := s[x.Int]
		if !ok {
			return x
		}
		x = y
	}
	return x
}

// whole is what x stands for.
func (s answers) whole(x api.Term) api.Term {
	x = s.of(x)
	l := x.Args
	x.Args = nil
	for _, arg := range l {
		x.Args = append(x.Args, s.whole(arg))
	}
	return x
}

// in says whether the variable stands in x.
func (s answers) in(v int64, x api.Term) bool {
	x = s.of(x)
	return x.Kind == api.TVar && x.Int == v || slices.ContainsFunc(x.Args, func(arg api.Term) bool { return s.in(v, arg) })
}

// solve is what makes two trees one in the most general way: false, if nothing does.
func (s answers) solve(x, y api.Term) bool {
	x, y = s.of(x), s.of(y)
	if y.Kind == api.TVar && x.Kind != api.TVar {
		x, y = y, x
	}
	if x.Kind == api.TVar {
		if y.Kind == api.TVar && y.Int == x.Int {
			return true
		}
		if s.in(x.Int, y) {
			return false
		}
		s[x.Int] = y
		return true
	}
	if x.Kind != y.Kind || x.Name != y.Name || x.Int != y.Int || x.Re != y.Re || x.Im != y.Im || len(x.Args) != len(y.Args) {
		return false
	}
	for n := range x.Args {
		if !s.solve(x.Args[n], y.Args[n]) {
			return false
		}
	}
	return true
}

// all is the row of the terms that stand for a, for b and for each of the variables.
func all(t *testing.T, h *heap.Heap, table *atoms.Table, l ...api.Cell) api.Term {
	t.Helper()
	vars := map[int]int64{}
	x := api.Term{Kind: api.TComp, Name: "all"}
	for _, c := range l {
		y, e := store.Get(h, table, c, vars)
		if e != api.OK {
			t.Fatalf("Get(%s): %d", show(c), e) // ErrLong, if a term stood within itself
		}
		x.Args = append(x.Args, y)
	}
	return x
}

// P8.3: behind Unify both stand for one term, the most general one, no term stands within itself; so it is either way.
func TestMostGeneral(t *testing.T) {
	draw := draws(83)
	made := 0
	for i := range 6000 {
		h, table, vars := heap.New(400), atoms.New(), map[int64]api.Cell{}
		x := drawnTerm(draw, 4)
		l := []api.Term{x, mixed(draw, x, 4)}
		for n := range 5 {
			l = append(l, api.Term{Kind: api.TVar, Int: int64(n)})
		}
		var c []api.Cell
		for _, y := range l {
			d, e := store.Put(h, table, y, vars)
			if e != api.OK {
				t.Fatal(e)
			}
			c = append(c, d)
		}
		s := answers{}
		if !s.solve(l[0], l[1]) {
			refuses(t, h, c[0], c[1], api.OK)
			continue
		}
		made++
		want := s.whole(api.Term{Kind: api.TComp, Name: "all", Args: l})
		look := func() {
			t.Helper()
			got := all(t, h, table, c...)
			if !term.Same(got.Args[0], got.Args[1]) || !term.Variant(got, want) {
				t.Errorf("case %d: %v; want %v", i, got, want)
			}
			oneWay(t, h, c[0], c[1], 0, func() {})
		}
		oneWay(t, h, c[0], c[1], len(s), look)
		oneWay(t, h, c[1], c[0], len(s), look)
		if t.Failed() {
			t.FailNow()
		}
	}
	if made < 1000 || made > 5000 {
		t.Error(made, "of 6000 were made one")
	}
}
