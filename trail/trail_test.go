package trail_test

import (
	"math"
	"slices"
	"testing"

	"elenchus/api"
	"elenchus/heap"
	"elenchus/trail"
)

// of is a heap of just these cells, with room for a hundred more.
func of(t *testing.T, l ...api.Cell) *heap.Heap {
	t.Helper()
	h := heap.New(len(l) + 100)
	for at, c := range l {
		if n, e := h.Push(c); n != at || e != api.OK {
			t.Fatalf("Push = %d, %d; want %d", n, e, at)
		}
	}
	return h
}

// cells is what a heap has.
func cells(h *heap.Heap) []api.Cell {
	var l []api.Cell
	for at := range h.Len() {
		c, _ := h.Get(at)
		l = append(l, c)
	}
	return l
}

// holds: h is to have just these cells.
func holds(t *testing.T, h *heap.Heap, want ...api.Cell) {
	t.Helper()
	if got := cells(h); !slices.Equal(got, want) {
		t.Errorf("cells %x; want %x", got, want)
	}
}

// keeps: x is to keep n writes.
func keeps(t *testing.T, x *trail.Trail, n int) {
	t.Helper()
	if x.Len() != n || x.Mark() != n {
		t.Errorf("Len = %d, Mark = %d; want %d", x.Len(), x.Mark(), n)
	}
}

// set: a Set is to be done, and one write more is to be kept.
func set(t *testing.T, x *trail.Trail, h *heap.Heap, at int, c api.Cell) {
	t.Helper()
	n := x.Len()
	if !x.Set(h, at, c) {
		t.Errorf("Set(%d, %x) is refused", at, uint64(c))
	}
	if got, _ := h.Get(at); got != c {
		t.Errorf("cell %d behind Set = %x; want %x", at, uint64(got), uint64(c))
	}
	keeps(t, x, n+1)
}

// refused: a Set is to be refused, and to change nothing.
func refused(t *testing.T, x *trail.Trail, h *heap.Heap, at int) {
	t.Helper()
	n, l := x.Len(), cells(h)
	if x.Set(h, at, 99) {
		t.Errorf("Set(%d) of %d cells is done", at, h.Len())
	}
	keeps(t, x, n)
	holds(t, h, l...)
}

// undone: Undo is to tell n and to leave mark writes.
func undone(t *testing.T, x *trail.Trail, h *heap.Heap, mark, n int) {
	t.Helper()
	if got := x.Undo(h, mark); got != n {
		t.Errorf("Undo(%d) = %d; want %d", mark, got, n)
	}
	keeps(t, x, mark)
}

// dropped: Drop is to tell n and to leave mark writes.
func dropped(t *testing.T, x *trail.Trail, mark, n int) {
	t.Helper()
	if got := x.Drop(mark); got != n {
		t.Errorf("Drop(%d) = %d; want %d", mark, got, n)
	}
	keeps(t, x, mark)
}

// far: numbers that are no place and no mark in any of these tests; some would be 0, or 2, in fewer bits.
func far() []int {
	return []int{-1, -2, -3, 1 << 20, 1 << 31, 1 << 32, 1<<32 + 2, -1 << 32, 2 - 1<<32, 1 << 61, 1<<61 + 2, math.MaxInt, math.MaxInt - 1, math.MinInt, math.MinInt + 2}
}

// P6.1: a new trail keeps nothing, and undoes nothing.
func TestNew(t *testing.T) {
	x, h := trail.New(), of(t, 11, 19)
	if x == nil {
		t.Fatal("New = nil")
	}
	keeps(t, x, 0)
	undone(t, x, h, 0, 0)
	dropped(t, x, 0, 0)
	holds(t, h, 11, 19)
}

// P6.1: Set writes the one cell that it is told, the first or the last, whatever word it is.
func TestSet(t *testing.T) {
	for _, c := range []api.Cell{0, 7, 8, 77, 26, 1 << 63, math.MaxUint64} {
		h, x := of(t, 11, 19, 27), trail.New()
		set(t, x, h, 2, c)
		holds(t, h, 11, 19, c)
		set(t, x, h, 0, c)
		holds(t, h, c, 19, c)
		set(t, x, h, 1, c)
		holds(t, h, c, c, c)
		undone(t, x, h, 0, 3)
		holds(t, h, 11, 19, 27)
	}
}

// P6.1: a Set where there is no cell is refused; nothing is kept of it.
func TestSetNowhere(t *testing.T) {
	h, x := of(t, 11, 19, 27), trail.New()
	for _, at := range append(far(), 3, 4, 5) {
		refused(t, x, h, at)
	}
	set(t, x, h, 1, 5)
	for _, at := range append(far(), 3, 4, 5) {
		refused(t, x, h, at)
	}
	undone(t, x, h, 0, 1)
	holds(t, h, 11, 19, 27)
	refused(t, x, heap.New(0), 0)
	refused(t, x, heap.New(5), 0) // room alone is no cell
	h.Cut(2)
	refused(t, x, h, 2)
	set(t, x, h, 1, 5)
}

// P6.1: a write of what stands there already is kept as any other.
func TestSetOfTheSame(t *testing.T) {
	h, x := of(t, 11, 0), trail.New()
	set(t, x, h, 0, 11)
	set(t, x, h, 1, 0)
	set(t, x, h, 0, 5)
	undone(t, x, h, 2, 1)
	holds(t, h, 11, 0)
	undone(t, x, h, 0, 2)
	holds(t, h, 11, 0)
}

// P6.1: what was written over comes back, words of all kinds.
func TestUndo(t *testing.T) {
	l := []api.Cell{0, 7, 8, 77, 26, 1 << 63, math.MaxUint64}
	h, x := of(t, l...), trail.New()
	for at := range l {
		set(t, x, h, at, 5)
	}
	for mark := len(l) - 1; mark >= 0; mark-- { // the last write first, one by one
		undone(t, x, h, mark, 1)
		want := slices.Clone(l)
		for at := range mark {
			want[at] = 5
		}
		holds(t, h, want...)
	}
	undone(t, x, h, 0, 0)
}

// P6.1: the document's example: a place that was written over more than once, undone at once.
func TestUndoTwice(t *testing.T) {
	h, x := of(t, 11), trail.New()
	mark := x.Mark()
	set(t, x, h, 0, 5)
	set(t, x, h, 0, 6)
	undone(t, x, h, mark, 2)
	holds(t, h, 11)
}

// P6.1: a place that was written over more than once, undone in parts, with others in between.
func TestUndoInParts(t *testing.T) {
	h, x := of(t, 11, 19, 27), trail.New()
	set(t, x, h, 1, 1)
	set(t, x, h, 1, 2)
	set(t, x, h, 0, 3)
	set(t, x, h, 1, 4)
	set(t, x, h, 2, 5)
	set(t, x, h, 1, 6)
	undone(t, x, h, 4, 2)
	holds(t, h, 3, 4, 27)
	undone(t, x, h, 4, 0) // a mark that is Len
	holds(t, h, 3, 4, 27)
	undone(t, x, h, 1, 3)
	holds(t, h, 11, 1, 27)
	set(t, x, h, 2, 7) // writes go on behind what is left
	set(t, x, h, 1, 8)
	holds(t, h, 11, 8, 7)
	undone(t, x, h, 0, 3)
	holds(t, h, 11, 19, 27)
}

// P6.1: a mark that is not 0 to Len is none: nothing is undone, nothing dropped.
func TestNoMark(t *testing.T) {
	h, x := of(t, 11, 19), trail.New()
	for range 3 {
		for _, mark := range append(far(), x.Len()+1, x.Len()+2, x.Len()+3) {
			l, n := cells(h), x.Len()
			if got := x.Undo(h, mark); got != 0 {
				t.Errorf("Undo(%d) of %d writes = %d; want 0", mark, n, got)
			}
			if got := x.Drop(mark); got != 0 {
				t.Errorf("Drop(%d) of %d writes = %d; want 0", mark, n, got)
			}
			keeps(t, x, n)
			holds(t, h, l...)
		}
		set(t, x, h, 1, api.Cell(x.Len()))
	}
	undone(t, x, h, 0, 3)
	holds(t, h, 11, 19)
}

// P6.1: a mark that was one once, and is beyond Len now, is none.
func TestMarkGone(t *testing.T) {
	for _, drop := range []bool{true, false} {
		h, x := of(t, 11, 19), trail.New()
		set(t, x, h, 0, 5)
		set(t, x, h, 1, 6)
		mark := x.Mark()
		if drop {
			dropped(t, x, 1, 1)
		} else {
			undone(t, x, h, 1, 1)
		}
		l := cells(h)
		if x.Undo(h, mark) != 0 || x.Drop(mark) != 0 {
			t.Error("a mark beyond Len counts")
		}
		keeps(t, x, 1)
		holds(t, h, l...)
	}
}

// P6.1: what is dropped is not undone, neither then nor later; what stood ahead of it still is.
func TestDrop(t *testing.T) {
	h, x := of(t, 11, 19, 27), trail.New()
	set(t, x, h, 0, 1)
	set(t, x, h, 1, 2)
	set(t, x, h, 0, 3)
	set(t, x, h, 2, 4)
	dropped(t, x, 4, 0)
	dropped(t, x, 3, 1)
	dropped(t, x, 1, 2)
	holds(t, h, 3, 2, 4)
	set(t, x, h, 2, 5)
	undone(t, x, h, 1, 1)
	holds(t, h, 3, 2, 4)
	undone(t, x, h, 0, 1) // the first write of place 0 alone
	holds(t, h, 11, 2, 4)
	set(t, x, h, 1, 6)
	set(t, x, h, 1, 7)
	dropped(t, x, 0, 2)
	undone(t, x, h, 0, 0)
	holds(t, h, 11, 7, 4)
}

// P6.1: what is undone is kept no more: it does not come back over what is written later.
func TestUndoneOnce(t *testing.T) {
	h, x := of(t, 11), trail.New()
	set(t, x, h, 0, 5)
	undone(t, x, h, 0, 1)
	h.Set(0, 6)
	undone(t, x, h, 0, 0)
	holds(t, h, 6)
	set(t, x, h, 0, 7)
	undone(t, x, h, 0, 1)
	holds(t, h, 6)
}

// P6.1: a place that was cut off is left out, and counts; the others have what stood there.
func TestUndoBehindCut(t *testing.T) {
	h, x := of(t, 11, 19, 27), trail.New()
	set(t, x, h, 0, 1)
	set(t, x, h, 2, 2)
	set(t, x, h, 1, 3)
	set(t, x, h, 2, 4)
	h.Cut(2)
	undone(t, x, h, 1, 3)
	holds(t, h, 1, 19)
	h.Cut(0)
	undone(t, x, h, 0, 1)
	holds(t, h)
}

// P6.1: a place that was cut off and is there again has what stood there when it was written over; one that is told anew and was not written stays.
func TestUndoBehindPush(t *testing.T) {
	h, x := of(t, 11, 19, 27), trail.New()
	set(t, x, h, 1, 1)
	set(t, x, h, 1, 2)
	h.Cut(1)
	h.Push(35)
	h.Push(43)
	h.Push(51)
	undone(t, x, h, 1, 1)
	holds(t, h, 11, 1, 43, 51)
	undone(t, x, h, 0, 1)
	holds(t, h, 11, 19, 43, 51)
}

// P6.1: cells that were pushed since the mark stay, with what stood there ahead of the writes.
func TestUndoOfNewCells(t *testing.T) {
	h, x := of(t, 11), trail.New()
	mark := x.Mark()
	h.Push(19)
	set(t, x, h, 1, 5)
	h.Push(27)
	set(t, x, h, 2, 6)
	set(t, x, h, 0, 7)
	undone(t, x, h, mark, 3)
	holds(t, h, 11, 19, 27)
}

// P6.1: variables are bound and free again.
func TestVariables(t *testing.T) {
	h, x := heap.New(3), trail.New()
	for range 3 {
		h.Var()
	}
	set(t, x, h, 1, 0) // bound to the first
	mark := x.Mark()
	set(t, x, h, 2, 8) // bound to the second
	set(t, x, h, 0, 18)
	for at := range api.Cell(3) {
		if got := h.Deref(at * 8); got != 18 {
			t.Errorf("Deref(ref %d) = %x; want 18", at, uint64(got))
		}
	}
	undone(t, x, h, mark, 2)
	holds(t, h, 0, 0, 16)
	undone(t, x, h, 0, 1)
	holds(t, h, 0, 8, 16)
}

// P6.1: a nil trail tells zero values, and changes nothing.
func TestNilTrail(t *testing.T) {
	var x *trail.Trail
	h := of(t, 11, 19)
	for _, n := range append(far(), 0, 1, 2) {
		refused(t, x, h, n)
		if x.Undo(h, n) != 0 || x.Drop(n) != 0 || x.Undo(nil, n) != 0 || x.Set(nil, n, 5) {
			t.Errorf("a nil trail tells something of %d", n)
		}
	}
	keeps(t, x, 0)
	holds(t, h, 11, 19)
}

// P6.1: a nil heap has no cell: nothing is written; what is undone is kept no more, as of places that are cut off.
func TestNilHeap(t *testing.T) {
	h, x := of(t, 11, 19), trail.New()
	for _, at := range append(far(), 0, 1, 2) {
		refused(t, x, nil, at)
	}
	undone(t, x, nil, 0, 0)
	set(t, x, h, 0, 5)
	set(t, x, h, 1, 6)
	refused(t, x, nil, 0)
	if x.Undo(nil, 3) != 0 || x.Undo(nil, -1) != 0 {
		t.Error("a mark that is none counts")
	}
	undone(t, x, nil, 1, 1)
	holds(t, h, 5, 6)
	undone(t, x, h, 0, 1)
	holds(t, h, 11, 6)
}

// A trail that New did not make keeps nothing yet.
func TestZero(t *testing.T) {
	var x trail.Trail
	h := of(t, 11)
	keeps(t, &x, 0)
	undone(t, &x, h, 0, 0)
	dropped(t, &x, 0, 0)
	set(t, &x, h, 0, 5)
	undone(t, &x, h, 0, 1)
	holds(t, h, 11)
}

// P6.1: trails keep to themselves.
func TestApart(t *testing.T) {
	h, x, y := of(t, 11, 19), trail.New(), trail.New()
	set(t, x, h, 0, 5)
	set(t, y, h, 1, 6)
	set(t, y, h, 1, 7)
	keeps(t, x, 1)
	undone(t, x, h, 0, 1)
	holds(t, h, 11, 7)
	keeps(t, y, 2)
	undone(t, y, h, 0, 2)
	holds(t, h, 11, 19)
}

// P6.1: the places are those of the heap that is handed in, also where that is another one.
func TestOtherHeap(t *testing.T) {
	g, h, x := of(t, 11, 19), of(t, 27), trail.New()
	set(t, x, g, 0, 5)
	set(t, x, g, 1, 6)
	undone(t, x, h, 0, 2)
	holds(t, g, 5, 6)
	holds(t, h, 11)
}

// P6.1: as many writes as there are, of a heap that is full.
func TestMany(t *testing.T) {
	const n = 1 << 20
	h, x := heap.New(n), trail.New()
	for at := range n {
		h.Push(api.Cell(at) ^ 5)
	}
	for range 2 {
		for at := range n {
			if !x.Set(h, at, 3) {
				t.Fatalf("Set(%d) is refused", at)
			}
		}
	}
	refused(t, x, h, n)
	undone(t, x, h, n+1, n-1)
	if c, _ := h.Get(n - 1); c != 3 {
		t.Errorf("the last cell = %x; want 3", uint64(c))
	}
	undone(t, x, h, 0, n+1)
	for at := range n {
		if c, ok := h.Get(at); c != api.Cell(at)^5 || !ok {
			t.Fatalf("Get(%d) = %x, %t", at, uint64(c), ok)
		}
	}
}

// draws is a row of numbers below n, the same in each run.
func draws(seed uint64) func(n int) int {
	return func(n int) int {
		seed = seed*6364136223846793005 + 1442695040888963407
		return int(seed>>33) % n
	}
}

// P6.2: behind Undo all cells are as they were at the mark, whatever was set since, and however often one went back in between.
func TestAsTheyWere(t *testing.T) {
	draw := draws(1)
	for range 200 {
		h, x := of(t, 11, 19, 27, 35, 43), trail.New()
		var marks []int
		var then [][]api.Cell
		for range 60 {
			switch draw(5) {
			case 0:
				marks, then = append(marks, x.Mark()), append(then, cells(h))
			case 1:
				if len(marks) == 0 {
					continue
				}
				k := draw(len(marks))
				undone(t, x, h, marks[k], x.Len()-marks[k])
				holds(t, h, then[k]...)
				marks, then = marks[:k], then[:k]
			default:
				set(t, x, h, draw(5), api.Cell(draw(1000)))
			}
		}
		undone(t, x, h, 0, x.Len())
		holds(t, h, 11, 19, 27, 35, 43)
	}
}

// P6.1, P6.2: many calls in a row, held against plain lists.
func TestAgainstLists(t *testing.T) {
	type write struct {
		at  int
		was api.Cell
	}
	draw := draws(2)
	h, x := of(t, 11, 19, 27), trail.New()
	l := []api.Cell{11, 19, 27}
	var kept []write
	for range 5000 {
		c, mark := api.Cell(draw(1<<20)), draw(len(kept)+3)-1
		good := mark >= 0 && mark <= len(kept)
		n := 0
		if good {
			n = len(kept) - mark
		}
		switch draw(10) {
		case 0, 1, 2, 3, 4:
			at := draw(len(l)+2) - 1
			has := at >= 0 && at < len(l)
			if x.Set(h, at, c) != has {
				t.Fatalf("Set(%d) of %d cells", at, len(l))
			}
			if has {
				kept = append(kept, write{at, l[at]})
				l[at] = c
			}
		case 5, 6:
			if _, e := h.Push(c); e == api.OK {
				l = append(l, c)
			}
		case 7:
			to := draw(len(l) + 1)
			h.Cut(to)
			l = l[:to]
		case 8:
			if got := x.Undo(h, mark); got != n {
				t.Fatalf("Undo(%d) of %d writes = %d", mark, len(kept), got)
			}
			for ; n > 0; n-- {
				w := kept[len(kept)-1]
				kept = kept[:len(kept)-1]
				if w.at < len(l) {
					l[w.at] = w.was
				}
			}
		case 9:
			if got := x.Drop(mark); got != n {
				t.Fatalf("Drop(%d) of %d writes = %d", mark, len(kept), got)
			}
			kept = kept[:len(kept)-n]
		}
		keeps(t, x, len(kept))
		holds(t, h, l...)
	}
}
