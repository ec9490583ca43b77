package copy_test

import (
	"fmt"
	"math"
	"reflect"
	"slices"
	"testing"

	"elenchus/api"
	"elenchus/atoms"
	"elenchus/copy"
	"elenchus/heap"
	"elenchus/store"
	"elenchus/term"
	"elenchus/trail"
	"elenchus/unify"
)

// The cells, spelt out: a value times 8, and the tag.
func ref(at int) api.Cell       { return api.Cell(at)*8 + 0 }
func str(at int) api.Cell       { return api.Cell(at)*8 + 1 }
func atm(n int) api.Cell        { return api.Cell(n)*8 + 2 }
func small(n int64) api.Cell    { return api.Cell(n)*8 + 3 }
func big(at int) api.Cell       { return api.Cell(at)*8 + 4 }
func cpl(at int) api.Cell       { return api.Cell(at)*8 + 5 }
func fun(n, arity int) api.Cell { return api.Cell(n*256+arity)*8 + 6 }

// none stands for no term, wherever it stands.
const none api.Cell = 7

// far is the greatest value of a cell.
const far = 1<<61 - 1

// of is a heap of just these cells, with no room for more.
func of(l ...api.Cell) *heap.Heap { return with(0, l...) }

// with is a heap of just these cells, with room for so many more.
func with(room int, l ...api.Cell) *heap.Heap {
	h := heap.New(len(l) + room)
	for _, c := range l {
		h.Push(c)
	}
	return h
}

// lay pushes these cells, and is the first one's place.
func lay(t *testing.T, h *heap.Heap, l ...api.Cell) int {
	t.Helper()
	first := h.Len()
	for _, c := range l {
		if _, e := h.Push(c); e != api.OK {
			t.Fatalf("Push behind %d cells: %d", h.Len(), e)
		}
	}
	return first
}

// compound lays one, and is the cell that stands for it.
func compound(t *testing.T, h *heap.Heap, name int, args ...api.Cell) api.Cell {
	t.Helper()
	return str(lay(t, h, append([]api.Cell{fun(name, len(args))}, args...)...))
}

// cells is what a heap has.
func cells(h *heap.Heap) []api.Cell {
	l := []api.Cell{}
	for at := range h.Len() {
		c, _ := h.Get(at)
		l = append(l, c)
	}
	return l
}

// show tells of each cell its tag, by a letter, and its value.
func show(l ...api.Cell) string {
	s := ""
	for _, c := range l[:min(len(l), 60)] {
		s += fmt.Sprintf("%c%d ", "rsaibcf?"[c%8], uint64(c/8))
	}
	return s
}

// holds: h is to have just these cells.
func holds(t *testing.T, h *heap.Heap, want ...api.Cell) {
	t.Helper()
	if got := cells(h); !slices.Equal(got, want) {
		t.Errorf("%d cells %s; want %d %s", len(got), show(got...), len(want), show(want...))
	}
}

// copies: the copy of c in an empty heap, with room for no more than it needs, is to be want, and these cells.
func copies(t *testing.T, h *heap.Heap, c, want api.Cell, laid ...api.Cell) {
	t.Helper()
	was, to := cells(h), heap.New(len(laid))
	if got, e := copy.Term(h, to, c); got != want || e != api.OK {
		t.Errorf("Term of %s= %s, %d; want %s", show(c), show(got), e, show(want))
	}
	holds(t, to, laid...)
	holds(t, h, was...)
}

// refuses: there is to be no copy of c, in a heap with this room, for the reason e; these cells are what stays laid.
func refuses(t *testing.T, h *heap.Heap, room int, c api.Cell, e api.Errno, laid ...api.Cell) {
	t.Helper()
	was, to := cells(h), heap.New(room)
	if got, f := copy.Term(h, to, c); got != 0 || f != e {
		t.Errorf("Term of %s= %s, %d; want error %d", show(c), show(got), f, e)
	}
	holds(t, to, laid...)
	holds(t, h, was...)
}

// collects: h's roots are to stand for want in a new heap of h's Most, which has these cells; h and the roots stay.
func collects(t *testing.T, h *heap.Heap, roots, want []api.Cell, laid ...api.Cell) {
	t.Helper()
	was, given := cells(h), slices.Clone(roots)
	to, l, e := copy.Collect(h, roots)
	if !slices.Equal(l, want) || e != api.OK {
		t.Errorf("Collect of %s= %s, %d; want %s", show(roots...), show(l...), e, show(want...))
	}
	if to == nil || to == h || to.Most() != h.Most() {
		t.Fatalf("Most %d; want %d", to.Most(), h.Most())
	}
	holds(t, to, laid...)
	holds(t, h, was...)
	if !slices.Equal(roots, given) {
		t.Errorf("roots %s; want %s", show(roots...), show(given...))
	}
}

// uncollected: Collect is to refuse h's roots, for the reason e.
func uncollected(t *testing.T, h *heap.Heap, roots []api.Cell, e api.Errno) {
	t.Helper()
	was, given := cells(h), slices.Clone(roots)
	if to, l, f := copy.Collect(h, roots); to != nil || l != nil || f != e {
		t.Errorf("Collect of %s= %v, %s, %d; want error %d", show(roots...), to, show(l...), f, e)
	}
	holds(t, h, was...)
	if !slices.Equal(roots, given) {
		t.Errorf("roots %s; want %s", show(roots...), show(given...))
	}
}

// P10.1: what has no place stands for itself: nothing is laid.
func TestAtomic(t *testing.T) {
	for _, c := range []api.Cell{atm(0), atm(1), atm(9), atm(api.MaxAtoms - 1), atm(api.MaxAtoms), atm(far), small(0), small(7), small(-1), small(1<<60 - 1), small(-1 << 60)} {
		copies(t, of(), c, c)
		copies(t, of(ref(0)), c, c)
		copies(t, of(c, ref(0)), ref(1), c)
		copies(t, of(fun(9, 1), c), str(0), str(0), fun(9, 1), c)
	}
}

// P10.1: a number that has a place: its words are pushed; one that a small cell would have room for too.
func TestNumbers(t *testing.T) {
	for _, w := range []api.Cell{1 << 60, math.MaxUint64 - 1<<60, math.MaxInt64, 1 << 63, 0, 5, math.MaxUint64, ref(1), str(0), fun(9, 1), none} {
		h := of(atm(9), w, atm(8), ref(4), big(1), ref(4))
		copies(t, h, big(1), big(0), w)
		copies(t, h, ref(5), big(0), w)
		for _, u := range []api.Cell{0, w, 1 << 63, none, 0x7ff8000000000001} {
			h = of(atm(9), w, u, cpl(1), ref(3))
			copies(t, h, cpl(1), cpl(0), w, u)
			copies(t, h, ref(4), cpl(0), w, u)
		}
	}
}

// P10.1: a variable: a new one; one that is bound is what it is bound to, at the end of a row of references.
func TestVariable(t *testing.T) {
	h := of(atm(9), ref(1), ref(1), ref(2), ref(6), ref(4), atm(8), ref(8), ref(9), str(10), fun(7, 1), ref(3))
	for at := 1; at <= 3; at++ {
		copies(t, h, ref(at), ref(0), ref(0))
	}
	for at := 4; at <= 6; at++ {
		copies(t, h, ref(at), atm(8))
	}
	for at := 7; at <= 9; at++ {
		copies(t, h, ref(at), str(0), fun(7, 1), ref(1))
	}
	copies(t, h, ref(0), atm(9))
}

// P10.1: the functor's cell and the arguments' stand ahead of what the arguments need, which is laid argument by argument, each to its end.
func TestCompound(t *testing.T) {
	h := heap.New(99)
	a := compound(t, h, 4, atm(1), atm(2))
	w := big(lay(t, h, 1<<62))
	b := compound(t, h, 5, w, a)
	z := cpl(lay(t, h, 11, 12))
	c := compound(t, h, 6, z)
	d := compound(t, h, 7, c, small(-3), b)
	copies(t, h, d, str(0), fun(7, 3), str(4), small(-3), str(8), // 0
		fun(6, 1), cpl(6), 11, 12, // 4
		fun(5, 2), big(11), str(12), 1<<62, // 8
		fun(4, 2), atm(1), atm(2)) // 12
}

// P10.1: functors of each number of arguments, and of the first and the last atom.
func TestFunctors(t *testing.T) {
	for n := 1; n <= api.MaxArity; n++ {
		for _, name := range []int{0, 1, 9, api.MaxAtoms - 1} {
			l := []api.Cell{fun(name, n)}
			for i := range n {
				l = append(l, atm(i+3))
			}
			copies(t, of(l...), str(0), str(0), l...)
			refuses(t, of(l...), n, str(0), api.ErrRoom, append([]api.Cell{fun(name, n)}, unset(n)...)[:n]...)
			refuses(t, of(l[:n]...), n+1, str(0), api.ErrForm)
		}
	}
}

// unset is the variables that n arguments of a compound at 0 are at first.
func unset(n int) []api.Cell {
	l := []api.Cell{}
	for i := range n {
		l = append(l, ref(i+1))
	}
	return l
}

// P10.1: the argument's own cell is the variable that is met there first; where it is met again stands a reference to it.
func TestVariablesWithin(t *testing.T) {
	h := of(fun(9, 3), ref(1), ref(2), ref(1)) // f(X, Y, X), of own cells
	copies(t, h, str(0), str(0), fun(9, 3), ref(1), ref(2), ref(1))
	h = of(ref(0), ref(1), fun(9, 4), ref(1), ref(4), ref(0), ref(1), ref(2)) // f(Y, Z, X, Y), X and Y elsewhere
	copies(t, h, str(2), str(0), fun(9, 4), ref(1), ref(2), ref(3), ref(1))
	h = of(fun(9, 2), ref(2), ref(2)) // the own cell is the second argument's
	copies(t, h, str(0), str(0), fun(9, 2), ref(1), ref(1))
	h = of(fun(9, 3), ref(4), ref(6), ref(4), ref(5), ref(5), ref(3)) // f(X, X, X) by rows of references
	copies(t, h, str(0), str(0), fun(9, 3), ref(1), ref(1), ref(1))
	h = of(fun(9, 2), str(3), ref(5), fun(8, 2), ref(4), ref(5)) // f(g(X, Y), Y): met first within
	copies(t, h, str(0), str(0), fun(9, 2), str(3), ref(5), fun(8, 2), ref(4), ref(5))
	h = of(fun(9, 2), ref(1), str(3), fun(8, 2), ref(1), ref(5)) // f(X, g(X, Y))
	copies(t, h, str(0), str(0), fun(9, 2), ref(1), str(3), fun(8, 2), ref(1), ref(5))
	h = of(fun(9, 2), str(3), ref(2), fun(8, 1), ref(2)) // f(g(X), X), X f's own: met first within g
	copies(t, h, str(0), str(0), fun(9, 2), str(3), ref(4), fun(8, 1), ref(4))
}

// P10.1: what stands at one place is laid once, by whichever references one comes to it; what is alike at two places is laid twice.
func TestShared(t *testing.T) {
	h := of(fun(9, 4), str(5), ref(7), str(5), str(8), fun(8, 1), atm(1), str(5), fun(8, 1), atm(1)) // one compound thrice, one like it
	copies(t, h, str(0), str(0), fun(9, 4), str(5), str(5), str(5), str(7), fun(8, 1), atm(1), fun(8, 1), atm(1))
	h = of(fun(9, 4), big(5), ref(6), big(5), big(7), 1<<60, big(5), 1<<60)
	copies(t, h, str(0), str(0), fun(9, 4), big(5), big(5), big(5), big(6), 1<<60, 1<<60)
	h = of(fun(9, 4), cpl(5), ref(7), cpl(5), cpl(8), 1, 2, cpl(5), 1, 2)
	copies(t, h, str(0), str(0), fun(9, 4), cpl(5), cpl(5), cpl(5), cpl(7), 1, 2, 1, 2)
	h = of(fun(9, 2), str(3), str(5), fun(8, 1), str(5), fun(7, 2), big(8), big(8), 5) // within one, and beside it
	copies(t, h, str(0), str(0), fun(9, 2), str(3), str(5), fun(8, 1), str(5), fun(7, 2), big(8), big(8), 5)
	l, want := []api.Cell{}, []api.Cell{}
	for n := range 400 { // a tree of 2^400 leaves
		l = append(l, fun(9, 2), str(3*n+3), str(3*n+3))
	}
	want = append(l, fun(8, 1), ref(1201))
	copies(t, of(append(l, fun(8, 1), ref(1201))...), str(0), str(0), want...)
}

// P10.1: a compound within itself is laid once; so are two within one another.
func TestInThemselves(t *testing.T) {
	h := of(fun(9, 1), str(0))
	copies(t, h, str(0), str(0), fun(9, 1), str(0))
	h = of(ref(2), atm(1), str(4), atm(1), fun(9, 3), ref(5), ref(0), str(4))
	copies(t, h, str(4), str(0), fun(9, 3), ref(1), str(0), str(0))
	copies(t, h, ref(0), str(0), fun(9, 3), ref(1), str(0), str(0))
	h = of(fun(9, 2), str(3), ref(2), fun(8, 2), ref(2), str(0))
	copies(t, h, str(0), str(0), fun(9, 2), str(3), ref(4), fun(8, 2), ref(4), str(0))
	copies(t, h, str(3), str(0), fun(8, 2), ref(1), str(3), fun(9, 2), str(0), ref(1))
}

// P10.1: a word that is a number here and a functor or a variable there is each of them.
func TestOnePlaceTwice(t *testing.T) {
	h := of(fun(9, 5), str(6), big(6), cpl(6), ref(7), big(7), fun(8, 1), ref(7))
	copies(t, h, str(0), str(0), fun(9, 5), str(6), big(8), cpl(9), ref(7), big(11),
		fun(8, 1), ref(7), fun(8, 1), fun(8, 1), ref(7), ref(7))
	h = of(fun(9, 3), cpl(4), cpl(5), big(5), 1, 2, 3) // numbers that overlap
	copies(t, h, str(0), str(0), fun(9, 3), cpl(4), cpl(6), big(8), 1, 2, 2, 3, 2)
	h = of(fun(9, 2), str(3), str(4), fun(8, 2), fun(7, 2), atm(1), atm(2)) // a functor among another one's arguments
	refuses(t, h, 99, str(0), api.ErrForm, fun(9, 2), ref(1), ref(2), fun(8, 2), ref(4), ref(5))
	copies(t, h, str(4), str(0), fun(7, 2), atm(1), atm(2))
}

// P10.1: it is laid behind what is there, which stays as it is; places of to are nothing to from.
func TestBehind(t *testing.T) {
	h := of(fun(9, 4), ref(1), ref(1), str(6), big(5), 1<<60, fun(8, 1), str(0), ref(8))
	to := heap.New(99)
	lay(t, to, none, ref(1), fun(9, 1), 1<<60)
	want := cells(to)
	for range 3 { // a call knows nothing of those ahead of it
		n := len(want)
		if c, e := copy.Term(h, to, str(0)); c != str(n) || e != api.OK {
			t.Error(show(c), e)
		}
		want = append(want, fun(9, 4), ref(n+1), ref(n+1), str(n+5), big(n+7), fun(8, 1), str(n), 1<<60)
		holds(t, to, want...)
		if c, e := copy.Term(h, to, ref(8)); c != ref(n+8) || e != api.OK {
			t.Error(show(c), e)
		}
		want = append(want, ref(n+8))
		holds(t, to, want...)
	}
	if c, e := copy.Term(h, to, atm(5)); c != atm(5) || e != api.OK {
		t.Error(show(c), e)
	}
	holds(t, to, want...)
	for _, c := range []api.Cell{ref(9), str(9), big(9), cpl(8), cpl(9)} { // there in to, not in from
		if c, e := copy.Term(h, to, c); c != 0 || e != api.ErrForm {
			t.Error(show(c), e)
		}
	}
	holds(t, to, want...)
}

// P10.1: from and to are one heap: what was there stays, and what is laid is behind it.
func TestOneHeap(t *testing.T) {
	l := []api.Cell{fun(9, 4), ref(1), ref(1), str(6), big(5), 1 << 60, fun(8, 1), str(0), ref(8), ref(0)}
	laid := []api.Cell{fun(9, 4), ref(11), ref(11), str(15), big(17), fun(8, 1), str(10), 1 << 60}
	h := with(len(laid), l...)
	if c, e := copy.Term(h, h, str(0)); c != str(10) || e != api.OK {
		t.Error(show(c), e)
	}
	holds(t, h, append(l, laid...)...)
	h = with(2, l...)
	if c, e := copy.Term(h, h, ref(8)); c != ref(10) || e != api.OK {
		t.Error(show(c), e)
	}
	if c, e := copy.Term(h, h, big(5)); c != big(11) || e != api.OK {
		t.Error(show(c), e)
	}
	holds(t, h, append(l, ref(10), 1<<60)...)
	h = with(len(laid)-1, l...)
	if c, e := copy.Term(h, h, str(0)); c != 0 || e != api.ErrRoom {
		t.Error(show(c), e)
	}
	holds(t, h, append(l, fun(9, 4), ref(11), ref(11), str(15), ref(14), fun(8, 1), str(10))...) // but for the number
}

// P10.1: where both are one heap, a place that was not there as the call began stands for nothing, whatever is laid there by then.
func TestOneHeapEnds(t *testing.T) {
	for _, first := range []api.Cell{atm(1), ref(1)} {
		then := map[api.Cell]api.Cell{atm(1): atm(1), ref(1): ref(6)}[first]
		for _, c := range []api.Cell{ref(4), ref(5), ref(6), ref(7), ref(8), ref(99), str(5), str(8), big(5), big(6), big(7), cpl(4), cpl(5), cpl(6), cpl(7)} {
			l := []api.Cell{fun(9, 2), first, c, fun(8, 1), ref(6)}
			h := with(99, l...)
			if got, e := copy.Term(h, h, str(0)); got != 0 || e != api.ErrForm {
				t.Error(show(c), show(got), e)
			}
			holds(t, h, append(l, fun(9, 2), then, ref(7))...)
		}
	}
	h := with(99, fun(9, 1), str(2), fun(8, 2), atm(1)) // the second argument is not there, though it is soon
	if c, e := copy.Term(h, h, str(0)); c != 0 || e != api.ErrForm {
		t.Error(show(c), e)
	}
	holds(t, h, fun(9, 1), str(2), fun(8, 2), atm(1), fun(9, 1), ref(5))
}

// P10.1, P10.2: no heap, on either side, on both.
func TestNil(t *testing.T) {
	h := with(9, ref(0), fun(9, 1), atm(1))
	for _, c := range []api.Cell{atm(1), small(1), ref(0), str(1), none, ref(99)} {
		for i, x := range [][2]*heap.Heap{{nil, h}, {h, nil}, {nil, nil}} {
			if d, e := copy.Term(x[0], x[1], c); d != 0 || e != api.ErrArg {
				t.Error(i, show(c), show(d), e)
			}
		}
		for _, roots := range [][]api.Cell{nil, {}, {c}, {c, c}} {
			uncollected(t, nil, roots, api.ErrArg)
		}
	}
	holds(t, h, ref(0), fun(9, 1), atm(1))
}

// P10.1, P10.2: a heap that New did not make has no cell and no room.
func TestZero(t *testing.T) {
	var from, to heap.Heap
	h := of(ref(0))
	if c, e := copy.Term(&from, h, atm(1)); c != atm(1) || e != api.OK {
		t.Error(show(c), e)
	}
	if c, e := copy.Term(&from, h, ref(0)); c != 0 || e != api.ErrForm {
		t.Error(show(c), e)
	}
	if c, e := copy.Term(h, &to, ref(0)); c != 0 || e != api.ErrRoom {
		t.Error(show(c), e)
	}
	collects(t, &from, []api.Cell{atm(1)}, []api.Cell{atm(1)})
	uncollected(t, &from, []api.Cell{ref(0)}, api.ErrForm)
	collects(t, heap.New(9), nil, nil)
}

// forms is cells with what stands for no term among them, and those cells that then do not.
func forms() ([]api.Cell, []api.Cell) {
	l := []api.Cell{ref(0), ref(1), // 0: X, Y
		fun(9, 0), atm(1), // 2: no argument
		fun(9, api.MaxArity+1), atm(1), // 4: too many
		fun(api.MaxAtoms, 1), atm(1), // 6: no atom
		ref(9), ref(10), ref(8), // 8 to 10: a ring
		ref(12), ref(11), // 11, 12: a ring
		ref(8), none, ref(14), ref(99), ref(2)} // 13: leads to a ring; 15 to a cell that is none; 16 to no place; 17 to a functor
	l = append(l, make([]api.Cell, api.MaxArity)...) // so that 4's arguments would all be there
	last := len(l) + 1
	l = append(l, fun(9, 2), atm(1)) // the last functor has one of its two arguments
	return l, []api.Cell{
		ref(last + 1), ref(99), ref(far), ref(1 << 32), ref(1 << 60), ref(8), ref(9), ref(10), ref(11), ref(12), ref(13), ref(14), ref(15), ref(16), ref(17),
		str(0), str(2), str(3), str(4), str(6), str(8), str(14), str(last - 1), str(last), str(last + 1), str(1 << 32), str(far),
		big(last + 1), big(1 << 32), big(far), cpl(last), cpl(last + 1), cpl(1 << 32), cpl(far), cpl(far - 1),
		fun(9, 1), fun(9, 2), fun(0, 0), none, none + 8, math.MaxUint64, math.MaxUint64 - 1,
	}
}

// P10.1, P10.2: each cell that stands for no term, by itself, as an argument, behind a reference.
func TestForm(t *testing.T) {
	l, bad := forms()
	for i, c := range bad {
		h := of(l...)
		refuses(t, h, 99, c, api.ErrForm)
		refuses(t, h, 0, c, api.ErrForm)
		uncollected(t, h, []api.Cell{c}, api.ErrForm)
		uncollected(t, h, []api.Cell{ref(0), c}, api.ErrForm)
		uncollected(t, h, []api.Cell{c, ref(0)}, api.ErrForm)
		one := with(99, l...)
		if got, e := copy.Term(one, one, c); got != 0 || e != api.ErrForm {
			t.Error("one heap", show(got), e)
		}
		holds(t, one, l...)
		formWithin(t, l, c)
		if t.Failed() {
			t.Fatalf("case %d: %s", i, show(c))
		}
	}
}

// formWithin: c stands for no term of the cells l; compounds are laid ahead of these, so that the last ones still are the last.
func formWithin(t *testing.T, l []api.Cell, c api.Cell) {
	t.Helper()
	const front = 20
	ahead := []api.Cell{fun(9, 3), atm(1), c, atm(2), // 0
		fun(8, 2), ref(7), str(0), ref(7), // 4; 7: X
		fun(7, 3), ref(9), ref(2), atm(2), // 8
		str(0)} // 12
	for len(ahead) < front {
		ahead = append(ahead, atm(1))
	}
	all := append(ahead, l...)
	for at, d := range all {
		if (at >= front || at == 2) && d < far && slices.Contains([]api.Cell{0, 1, 4, 5}, d%8) { // a place, and one that may be moved
			all[at] = d + front*8
		}
	}
	h := of(all...)
	within := []api.Cell{fun(9, 3), atm(1), ref(2), ref(3)}
	refuses(t, h, 99, str(0), api.ErrForm, within...)
	refuses(t, h, 99, ref(12), api.ErrForm, within...)
	refuses(t, h, 99, str(4), api.ErrForm, fun(8, 2), ref(1), ref(2), fun(9, 3), atm(1), ref(5), ref(6))
	refuses(t, h, 99, str(8), api.ErrForm, fun(7, 3), ref(1), ref(2), ref(3))
	uncollected(t, h, []api.Cell{ref(7), str(4)}, api.ErrForm)
}

// set is l with the cells of these arguments Set: pairs of a place and a cell.
func set(l []api.Cell, pairs ...api.Cell) []api.Cell {
	l = slices.Clone(l)
	for i := 0; i < len(pairs); i += 2 {
		l[pairs[i]] = pairs[i+1]
	}
	return l
}

// P10.1: what was laid ahead of an error stays: an argument's cell is Set when the whole of it is laid, as store.Put does.
func TestStays(t *testing.T) {
	h := of(fun(9, 4), str(5), atm(7), str(8), atm(6), // 0
		fun(8, 2), atm(5), big(11), // 5
		fun(7, 2), ref(9), none, // 8
		1<<60) // 11
	whole := []api.Cell{fun(9, 4), ref(1), ref(2), ref(3), ref(4),
		fun(8, 2), ref(6), ref(7), 1 << 60, fun(7, 2), ref(10), ref(11)}
	refuses(t, h, 99, str(0), api.ErrForm, set(whole, 1, str(5), 2, atm(7), 6, atm(5), 7, big(8))...)
	h.Set(10, cpl(10))
	whole = append(whole, cpl(10), 1<<60)
	copies(t, h, str(0), str(0), set(whole, 1, str(5), 2, atm(7), 3, str(9), 4, atm(6), 6, atm(5), 7, big(8), 11, cpl(12))...)
	for room := range whole {
		want := whole[:room]
		switch {
		case room >= 9: // all of the first argument is laid
			want = set(want, 1, str(5), 2, atm(7), 6, atm(5), 7, big(8))
		case room == 8: // but for the number
			want = set(want, 6, atm(5))
		}
		refuses(t, h, room, str(0), api.ErrRoom, want...)
	}
}

// P10.1: each room that does not do, and the one that does.
func TestRoom(t *testing.T) {
	h := of(ref(0), 1<<60, 3, fun(9, 2), ref(4), ref(5))
	refuses(t, h, 0, ref(0), api.ErrRoom)
	refuses(t, h, -5, ref(0), api.ErrRoom)
	refuses(t, h, 0, big(1), api.ErrRoom)
	refuses(t, h, 0, cpl(1), api.ErrRoom)
	refuses(t, h, 1, cpl(1), api.ErrRoom, 1<<60)
	refuses(t, h, 0, str(3), api.ErrRoom)
	refuses(t, h, 1, str(3), api.ErrRoom, fun(9, 2))
	refuses(t, h, 2, str(3), api.ErrRoom, fun(9, 2), ref(1))
	copies(t, h, ref(0), ref(0), ref(0))
	copies(t, h, big(1), big(0), 1<<60)
	copies(t, h, cpl(1), cpl(0), 1<<60, 3)
	copies(t, h, str(3), str(0), fun(9, 2), ref(1), ref(2))
	refuses(t, h, 0, ref(9), api.ErrForm)
	refuses(t, h, 0, none, api.ErrForm)
}

// P10.1: of a term the error that is met first is told; at one cell the one that the document lists first.
func TestMetFirst(t *testing.T) {
	h := of(fun(9, 2), big(3), none, 1<<60, fun(9, 2), none, big(3), fun(9, 1), none)
	refuses(t, h, 3, str(0), api.ErrRoom, fun(9, 2), ref(1), ref(2))
	refuses(t, h, 4, str(0), api.ErrForm, fun(9, 2), big(3), ref(2), 1<<60)
	refuses(t, h, 3, str(4), api.ErrForm, fun(9, 2), ref(1), ref(2))
	refuses(t, h, 2, str(4), api.ErrRoom, fun(9, 2), ref(1))
	refuses(t, h, 1, str(7), api.ErrRoom, fun(9, 1))
	refuses(t, h, 2, str(7), api.ErrForm, fun(9, 1), ref(1))
	refuses(t, of(fun(9, 2), none), 0, str(0), api.ErrForm) // its cells are not all there: met ahead of any room
	refuses(t, of(1), 0, cpl(0), api.ErrForm)
}

// tree lays a compound of just so many nodes (at least two), none of them shared, of which the last that is met is last.
func tree(t *testing.T, h *heap.Heap, nodes int, last api.Cell) api.Cell {
	t.Helper()
	for have := 1; have < nodes; {
		n := min(api.MaxArity, nodes-have)
		args := []api.Cell{}
		for range n - 1 {
			args = append(args, atm(1))
		}
		last = compound(t, h, 9, append(args, last)...)
		have += n
	}
	return last
}

// row lays a compound of just so many nodes, each of them the one argument of the one ahead of it.
func row(t *testing.T, h *heap.Heap, nodes int, last api.Cell) api.Cell {
	t.Helper()
	for range nodes - 1 {
		last = compound(t, h, 9, last)
	}
	return last
}

// does: whether there is to be a copy of c, in a heap with all the room that there may be, and why not.
func does(t *testing.T, h *heap.Heap, c api.Cell, want api.Errno) *heap.Heap {
	t.Helper()
	to := heap.New(api.MaxCells)
	got, e := copy.Term(h, to, c)
	if e != want || e != api.OK && got != 0 {
		t.Errorf("Term = %s, %d; want %d", show(got), e, want)
	}
	return to
}

// P10.1: MaxVisits cells are visited, and no more.
func TestVisits(t *testing.T) {
	for i, build := range []func(*testing.T, *heap.Heap, int, api.Cell) api.Cell{tree, row} {
		h := heap.New(api.MaxCells)
		lay(t, h, ref(0), 1<<60, 2)
		for _, last := range []api.Cell{atm(1), ref(0), big(1), cpl(1)} {
			c := build(t, h, api.MaxVisits, last)
			n := does(t, h, c, api.OK).Len()
			over := compound(t, h, 9, c)
			to := does(t, h, over, api.ErrLong)
			want := n + 2
			if last == big(1) {
				want-- // the last is not laid
			} else if last == cpl(1) {
				want -= 2
			}
			if to.Len() != want {
				t.Error(i, show(last), to.Len(), "cells stay; want", want)
			}
		}
		c := build(t, h, api.MaxVisits, none)
		does(t, h, c, api.ErrForm)
		c = compound(t, h, 9, c)
		does(t, h, c, api.ErrForm)                    // both apply to one cell: the document lists this first
		does(t, h, compound(t, h, 9, c), api.ErrLong) // the one ahead of it is too much already
	}
}

// P10.1: at one cell too many visits are told ahead of no room; of two the one that is met first.
func TestVisitsAndRoom(t *testing.T) {
	h := heap.New(api.MaxCells)
	lay(t, h, ref(0), 1<<60)
	c := tree(t, h, api.MaxVisits+1, big(1))
	n := does(t, h, c, api.ErrLong).Len()
	to := heap.New(n) // no room for the number
	if got, e := copy.Term(h, to, c); got != 0 || e != api.ErrLong {
		t.Error(show(got), e)
	}
	to = heap.New(n - 1)
	if got, e := copy.Term(h, to, c); got != 0 || e != api.ErrRoom || to.Len() != n-1 {
		t.Error(show(got), e, to.Len())
	}
}

// P10.1: what is met again is a visit, and what stands within it is none; a reference is none.
func TestVisitsOfShared(t *testing.T) {
	h := heap.New(api.MaxCells)
	c := ref(lay(t, h, ref(0)))
	for range 4999 { // 20 visits each
		for range 9 {
			c = ref(lay(t, h, c))
		}
		c = compound(t, h, 9, slices.Repeat([]api.Cell{c}, 20)...)
	}
	c = row(t, h, 20, c) // 4999 * 20 + 1, and 19
	if n := does(t, h, c, api.OK).Len(); n != 4999*21+19*2 {
		t.Error(n, "cells")
	}
	does(t, h, compound(t, h, 9, c), api.ErrLong)
}

// P10.2: the visits of all the roots count together; each call has all of its visits.
func TestVisitsOfCollect(t *testing.T) {
	h := heap.New(api.MaxCells)
	x := ref(lay(t, h, ref(0)))
	a, b := tree(t, h, 60000, x), row(t, h, 39998, x)
	did := func(want api.Errno, roots ...api.Cell) {
		t.Helper()
		to, l, e := copy.Collect(h, roots)
		if e != want || (e == api.OK) != (to != nil) || e == api.OK && len(l) != len(roots) || e != api.OK && l != nil {
			t.Errorf("%d roots: %d cells, %d; want %d", len(l), to.Len(), e, want)
		}
	}
	for range 2 {
		did(api.OK, a, b, atm(1), atm(1))
		did(api.OK, b, atm(1), a, x)
		did(api.OK, a, b, b, a) // one visit each, where they are met again
		did(api.ErrLong, a, b, b, a, a)
		did(api.ErrLong, a, b, atm(1), atm(1), atm(1))
		did(api.ErrForm, a, b, atm(1), atm(1), none)
		did(api.ErrLong, a, b, atm(1), atm(1), atm(1), none)
		did(api.ErrForm, a, none, b, b, b, b)
	}
	did(api.OK, slices.Repeat([]api.Cell{atm(1)}, api.MaxVisits)...)
	did(api.ErrLong, slices.Repeat([]api.Cell{atm(1)}, api.MaxVisits+1)...)
	did(api.OK, slices.Repeat([]api.Cell{x}, api.MaxVisits)...)
	did(api.ErrLong, slices.Repeat([]api.Cell{x}, api.MaxVisits+1)...)
}

// P10.2: root by root, a cell for each; what no root needs is not there.
func TestCollect(t *testing.T) {
	h := with(40, atm(5), ref(1), ref(2)) // the document's own
	collects(t, h, []api.Cell{ref(2)}, []api.Cell{ref(0)}, ref(0))
	collects(t, h, nil, nil)
	collects(t, h, []api.Cell{}, nil)
	collects(t, h, []api.Cell{ref(2), ref(1), ref(2), ref(0)}, []api.Cell{ref(0), ref(1), ref(0), atm(5)}, ref(0), ref(1))
	h = with(3, fun(9, 2), ref(1), ref(2), big(4), 1<<60, fun(8, 2), ref(1), ref(3), 5, 6, str(5)) // 0: f(X, Y); 5: g(X, 2^60)
	f := []api.Cell{fun(9, 2), ref(1), ref(2)}
	collects(t, h, []api.Cell{str(0)}, []api.Cell{str(0)}, f...)
	collects(t, h, []api.Cell{str(0), str(0), str(0)}, []api.Cell{str(0), str(0), str(0)}, f...)
	collects(t, h, []api.Cell{str(0), ref(2), str(0), ref(1)}, []api.Cell{str(0), ref(2), str(0), ref(1)}, f...)
	collects(t, h, []api.Cell{ref(2), str(0)}, []api.Cell{ref(0), str(1)}, ref(0), fun(9, 2), ref(2), ref(0))
	collects(t, h, []api.Cell{str(0), str(5)}, []api.Cell{str(0), str(3)}, fun(9, 2), ref(1), ref(2), fun(8, 2), ref(1), big(6), 1<<60)
	collects(t, h, []api.Cell{ref(10), big(4), str(0)}, []api.Cell{str(0), big(3), str(4)}, fun(8, 2), ref(1), big(3), 1<<60, fun(9, 2), ref(1), ref(6))
	collects(t, h, []api.Cell{cpl(8), ref(3), cpl(8), big(4), big(9)}, []api.Cell{cpl(0), big(2), cpl(0), big(2), big(3)}, 5, 6, 1<<60, 6)
	h = with(0, fun(9, 2), str(0), str(3), fun(8, 2), str(0), str(3)) // within one another
	collects(t, h, []api.Cell{str(3), str(0)}, []api.Cell{str(0), str(3)}, fun(8, 2), str(3), str(0), fun(9, 2), str(3), str(0))
}

// P10.2: the new heap has h's Most, and no room beyond; roots that need more than that are refused.
func TestCollectRoom(t *testing.T) {
	for _, room := range []int{0, 1, 40} {
		h := with(room, fun(9, 1), ref(1), atm(5))
		to, _, _ := copy.Collect(h, []api.Cell{str(0)})
		for range room + 1 {
			if _, e := to.Var(); e != api.OK {
				t.Error(room, e)
			}
		}
		if _, e := to.Var(); e != api.ErrRoom {
			t.Error(room, e)
		}
	}
	h := of(1, 2, 3)
	collects(t, h, []api.Cell{cpl(1), big(0)}, []api.Cell{cpl(0), big(2)}, 2, 3, 1)
	uncollected(t, h, []api.Cell{cpl(0), cpl(1)}, api.ErrRoom) // one number twice, in part
	uncollected(t, h, []api.Cell{cpl(0), big(0), big(1)}, api.ErrRoom)
	uncollected(t, h, []api.Cell{cpl(0), cpl(1), none}, api.ErrRoom)
	uncollected(t, h, []api.Cell{cpl(0), none, cpl(1)}, api.ErrForm)
	h = of(fun(9, 1), ref(1))
	uncollected(t, h, []api.Cell{ref(1), str(0)}, api.ErrRoom) // the variable is none of the compound's own any more
	collects(t, h, []api.Cell{str(0), ref(1)}, []api.Cell{str(0), ref(1)}, fun(9, 1), ref(1))
}

// P10.2, R2: what is told is the caller's own, each time anew.
func TestCollectNewMemory(t *testing.T) {
	h, roots := with(5, fun(9, 1), ref(1)), []api.Cell{str(0), atm(7), ref(1)}
	a, l, _ := copy.Collect(h, roots)
	b, m, _ := copy.Collect(h, roots)
	l[0], l[1], l[2] = none, none, none
	a.Cut(0)
	h.Set(0, none)
	_ = append(m[:1:1], none)
	if !slices.Equal(roots, []api.Cell{str(0), atm(7), ref(1)}) || !slices.Equal(m, []api.Cell{str(0), atm(7), ref(1)}) {
		t.Error(show(roots...), show(m...))
	}
	holds(t, b, fun(9, 1), ref(1))
	roots = append(make([]api.Cell, 0, 9), atm(1), atm(2)) // what lies behind a list is nobody's
	behind := roots[:3]
	behind[2] = none
	if _, l, e := copy.Collect(h, roots); len(l) != 2 || e != api.OK || behind[2] != none {
		t.Error(show(l...), e, show(behind...))
	}
}

// model is the document's words by plain recursion; from's cells as they were as the call began.
type model struct {
	from, to []api.Cell
	most     int
	met      map[string]api.Cell
	visits   int
}

// there says whether so many of from's cells stand from a place on.
func (m *model) there(at uint64, words int) bool {
	return at < uint64(len(m.from)) && at+uint64(words) <= uint64(len(m.from))
}

// push lays one.
func (m *model) push(c api.Cell) int {
	if len(m.to) == m.most {
		panic(api.ErrRoom)
	}
	m.to = append(m.to, c)
	return len(m.to) - 1
}

// newVar lays one.
func (m *model) newVar() int { return m.push(ref(len(m.to))) }

// sound panics, unless c, which is Dereffed, stands for a term.
func (m *model) sound(c api.Cell) {
	at := uint64(c / 8)
	ok := false
	switch c % 8 {
	case 0:
		ok = m.there(at, 1) && m.from[at] == c
	case 1:
		if m.there(at, 1) && m.from[at]%8 == 6 {
			f := m.from[at] / 8
			n := int(f % 256)
			ok = f/256 < api.MaxAtoms && n >= 1 && n <= api.MaxArity && m.there(at, n+1)
		}
	case 2, 3:
		ok = true
	case 4:
		ok = m.there(at, 1)
	case 5:
		ok = m.there(at, 2)
	}
	if !ok {
		panic(api.ErrForm)
	}
}

// lay is the cell that stands for c; own is the argument's Var that it is for, or -1.
func (m *model) lay(c api.Cell, own int) api.Cell {
	for steps := 0; c%8 == 0 && m.there(uint64(c/8), 1) && m.from[c/8] != c && steps <= len(m.from); steps++ {
		c = m.from[c/8]
	}
	m.sound(c)
	if m.visits++; m.visits > api.MaxVisits {
		panic(api.ErrLong)
	}
	at, key := int(c/8), show(c)
	if d, ok := m.met[key]; ok {
		return d
	}
	switch c % 8 {
	case 0:
		if own < 0 {
			own = m.newVar()
		}
		m.met[key] = ref(own)
	case 1:
		n := int(m.from[at] / 8 % 256)
		f := m.push(m.from[at])
		for range n {
			m.newVar()
		}
		m.met[key] = str(f)
		for i := range n {
			m.to[f+1+i] = m.lay(m.from[at+1+i], f+1+i)
		}
	case 4:
		m.met[key] = big(m.push(m.from[at]))
	case 5:
		m.met[key] = cpl(m.push(m.from[at]))
		m.push(m.from[at+1])
	default:
		return c
	}
	return m.met[key]
}

// all is what the roots come to, and the error that ends it.
func (m *model) all(roots ...api.Cell) (l []api.Cell, e api.Errno) {
	defer func() {
		if got, ok := recover().(api.Errno); ok {
			l, e = nil, got
		}
	}()
	m.met = map[string]api.Cell{}
	for _, c := range roots {
		l = append(l, m.lay(c, -1))
	}
	return l, api.OK
}

// draws is a row of numbers below n, the same in each run.
func draws(seed uint64) func(n int) int {
	return func(n int) int {
		seed = seed*6364136223846793005 + 1442695040888963407
		return int(seed>>33) % n
	}
}

// drawnTerm is one of few names, numbers and variables, so that they are met again.
func drawnTerm(draw func(n int) int, depth int) api.Term {
	switch n := draw(12); {
	case n < 4:
		return api.Term{Kind: api.TVar, Int: int64(draw(5))}
	case n < 5:
		return api.Term{Kind: api.TAtom, Name: string(rune('a' + draw(2)))}
	case n < 6:
		return api.Term{Kind: api.TInt, Int: []int64{0, -1, 1<<60 - 1, 1 << 60, -1 << 60, -1<<60 - 1, math.MaxInt64, math.MinInt64}[draw(8)]}
	case n < 7 || depth == 1:
		return api.Term{Kind: api.TCpx, Re: uint64(draw(2)), Im: math.MaxUint64 - uint64(draw(2))}
	}
	x := api.Term{Kind: api.TComp, Name: string(rune('f' + draw(4)/3))}
	for range draw(8)/3 + 1 {
		x.Args = append(x.Args, drawnTerm(draw, depth-1))
	}
	return x
}

// drawnCell is any cell, most of them of a place near those that there are.
func drawnCell(draw func(n int) int, n int) api.Cell {
	c := api.Cell(draw(n+2))*8 + api.Cell(draw(8))
	switch draw(12) {
	case 0:
		c += api.Cell(draw(8)) << 61
	case 1, 2, 3:
		c = fun(draw(2), draw(4))
	case 4, 5, 6:
		c -= c % 8
	case 7, 8:
		c += 1 - c%8
	case 9:
		c = atm(3)
	}
	return c
}

// drawnHeap is terms that have variables in common, laid in a heap; some cells of it are led elsewhere then.
func drawnHeap(t *testing.T, draw func(n int) int, wild int) (*heap.Heap, *atoms.Table, []api.Cell) {
	t.Helper()
	h, a, vars := heap.New(2000), atoms.New(), map[int64]api.Cell{}
	var roots []api.Cell
	for range draw(4) + 1 {
		c, e := store.Put(h, a, drawnTerm(draw, 4), vars)
		if e != api.OK {
			t.Fatal(e)
		}
		roots = append(roots, c)
	}
	for range draw(4) * wild {
		h.Push(drawnCell(draw, h.Len()))
	}
	for range draw(5) * wild * min(h.Len(), 1) {
		c := drawnCell(draw, h.Len())
		if draw(2) == 0 {
			c = roots[draw(len(roots))] // shared, or within itself
		}
		h.Set(draw(h.Len()), c)
	}
	for range draw(3) * wild {
		roots = append(roots, drawnCell(draw, h.Len()))
	}
	return h, a, roots
}

// P10.1, P10.2: terms and whatever cells, held against the document's words: the answer, each cell, in a heap of its own, in one with little room, in the same.
func TestAgainstWords(t *testing.T) {
	draw := draws(10)
	seen := map[api.Errno]int{}
	for i := range 8000 {
		h, _, roots := drawnHeap(t, draw, i%4/2)
		was := cells(h)
		for _, c := range roots {
			for _, room := range []int{1000, draw(12)} {
				m := model{from: was, to: []api.Cell{atm(1), none}, most: 2 + room}
				want, e := m.all(c)
				to := with(room, m.to[:2]...)
				got, f := copy.Term(h, to, c)
				if f != e || e == api.OK && got != want[0] || e != api.OK && got != 0 {
					t.Errorf("Term of %s= %s, %d; want %s, %d", show(c), show(got), f, show(want...), e)
				}
				holds(t, to, m.to...)
				holds(t, h, was...)
				seen[e]++
			}
			oneHeapAgainstWords(t, was, c, []int{1000, draw(12)}[draw(2)])
		}
		m := model{most: h.Most(), from: was}
		want, e := m.all(roots...)
		if e == api.OK {
			collects(t, h, roots, want, m.to...)
		} else {
			uncollected(t, h, roots, e)
		}
		if t.Failed() {
			t.Fatalf("case %d: roots %s of %s", i, show(roots...), show(was...))
		}
	}
	if seen[api.OK] < 5000 || seen[api.ErrForm] < 1000 || seen[api.ErrRoom] < 1000 {
		t.Error("too few of a kind:", seen)
	}
}

// oneHeapAgainstWords: the copy of c among the cells l, laid behind these.
func oneHeapAgainstWords(t *testing.T, l []api.Cell, c api.Cell, room int) {
	t.Helper()
	m := model{from: l, to: slices.Clone(l), most: len(l) + room}
	want, e := m.all(c)
	h := with(room, l...)
	got, f := copy.Term(h, h, c)
	if f != e || e == api.OK && got != want[0] || e != api.OK && got != 0 {
		t.Errorf("in one heap: Term of %s= %s, %d; want %s, %d", show(c), show(got), f, show(want...), e)
	}
	holds(t, h, m.to...)
}

// told is the row of the terms that stand for the roots, variables numbered together.
func told(t *testing.T, h *heap.Heap, a *atoms.Table, roots []api.Cell) api.Term {
	t.Helper()
	vars := map[int]int64{}
	x := api.Term{Kind: api.TComp, Name: "row"}
	for _, c := range roots {
		y, e := store.Get(h, a, c, vars)
		if e != api.OK {
			t.Fatalf("Get of %s: %d", show(c), e)
		}
		x.Args = append(x.Args, y)
	}
	return x
}

// same: the terms are to be these.
func same(t *testing.T, got, want api.Term) {
	t.Helper()
	if !reflect.DeepEqual(got, want) {
		t.Fatalf("%v; want %v", got, want)
	}
}

// joined makes some of the roots one, so that variables are bound, to other variables too.
func joined(draw func(n int) int, h *heap.Heap, roots []api.Cell) {
	x := trail.New()
	for range draw(4) {
		unify.Unify(h, x, roots[draw(len(roots))], roots[draw(len(roots))])
	}
	for range draw(3) {
		unify.Unify(h, x, ref(draw(h.Len()+1)), roots[draw(len(roots))])
	}
}

// sound says whether store.Get tells all the roots: what was made one at random may be no term.
func sound(h *heap.Heap, a *atoms.Table, roots []api.Cell) bool {
	return !slices.ContainsFunc(roots, func(c api.Cell) bool { return store.Sound(h, a, c) != api.OK })
}

// P10.3: a copy stands for a variant.
func TestVariant(t *testing.T) {
	draw := draws(103)
	for i := range 4000 {
		h, a, roots := drawnHeap(t, draw, 0)
		joined(draw, h, roots)
		if !sound(h, a, roots) {
			continue
		}
		for _, c := range roots {
			to := heap.New(2000)
			lay(t, to, slices.Repeat([]api.Cell{none}, draw(3))...)
			for _, into := range []*heap.Heap{to, h} {
				d, e := copy.Term(h, into, c)
				if e != api.OK {
					t.Fatal(i, e)
				}
				x, y := told(t, h, a, []api.Cell{c}), told(t, into, a, []api.Cell{d})
				if !term.Variant(x, y) {
					t.Fatalf("case %d: %v; want %v", i, y, x)
				}
				same(t, y, x)
			}
		}
		before := told(t, h, a, roots)
		for _, c := range roots { // in the same heap, none of its variables is one of these
			d, _ := copy.Term(h, h, c)
			both := told(t, h, a, []api.Cell{c, d})
			if l := term.Vars(both); len(l) != 2*len(term.Vars(both.Args[0])) {
				t.Fatalf("case %d: %v", i, both)
			}
		}
		same(t, told(t, h, a, roots), before)
	}
}

// P10.3: what is done to a copy changes nothing of what it was copied from, nor the other way round.
func TestApart(t *testing.T) {
	draw := draws(1003)
	for i := range 2000 {
		h, a, roots := drawnHeap(t, draw, 0)
		joined(draw, h, roots)
		if !sound(h, a, roots) {
			continue
		}
		was := cells(h)
		to, l, e := copy.Collect(h, roots)
		if e != api.OK {
			t.Fatal(e)
		}
		copied := cells(to)
		for at := range to.Len() {
			to.Set(at, none)
		}
		holds(t, h, was...)
		to, l, _ = copy.Collect(h, roots)
		for at := range h.Len() {
			h.Set(at, none)
		}
		holds(t, to, copied...)
		before, n := told(t, to, a, l), to.Len()
		d, e := copy.Term(to, to, l[0])
		if e != api.OK {
			t.Fatal(e)
		}
		vars := map[int]int64{}
		store.Get(to, a, d, vars)
		for at := range vars {
			if at < n || !unify.Bind(to, trail.New(), ref(at), atm(0)) {
				t.Fatal(i, at, n)
			}
		}
		same(t, told(t, to, a, l), before)
		if x := told(t, to, a, []api.Cell{d}); len(term.Vars(x)) != 0 {
			t.Fatal(i, x)
		}
		holds(t, h, slices.Repeat([]api.Cell{none}, len(was))...)
	}
}

// P10.3: collected, terms are as they were, what variables they share too; once more, and nothing changes.
func TestCollected(t *testing.T) {
	draw := draws(10003)
	for i := range 4000 {
		h, a, roots := drawnHeap(t, draw, 0)
		joined(draw, h, roots)
		if !sound(h, a, roots) {
			continue
		}
		roots = append(roots, roots[draw(len(roots))], atm(0))
		if h.Len() > 0 && store.Sound(h, a, ref(draw(h.Len()))) == api.OK {
			roots = append(roots, roots[0])
		}
		for range draw(3) {
			n, m := draw(len(roots)), draw(len(roots))
			roots[n], roots[m] = roots[m], roots[n]
		}
		to, l, e := copy.Collect(h, roots)
		if e != api.OK {
			t.Fatal(e)
		}
		same(t, told(t, to, a, l), told(t, h, a, roots))
		collects(t, to, l, l, cells(to)...)
		if t.Failed() {
			t.Fatalf("case %d: roots %s of %s", i, show(roots...), show(cells(h)...))
		}
	}
}

// P10.3: of a heap in which store.Put alone laid terms, collected in that order, no cell comes of it that was not there; less is left of fewer.
func TestNoMoreCells(t *testing.T) {
	draw := draws(100003)
	less := 0
	for i := range 4000 {
		h, _, roots := drawnHeap(t, draw, 0)
		collects(t, h, roots, roots, cells(h)...)
		var some []api.Cell
		for _, c := range roots {
			if draw(2) == 0 {
				some = append(some, c)
			}
		}
		to, _, e := copy.Collect(h, some)
		if e != api.OK || to.Len() > h.Len() {
			t.Fatalf("case %d: %d cells of %d, %d", i, to.Len(), h.Len(), e)
		}
		if to.Len() < h.Len() {
			less++
		}
	}
	if less < 1000 {
		t.Error("too few had less:", less)
	}
}
