package heap_test

import (
	"math"
	"testing"

	"elenchus/api"
	"elenchus/heap"
)

// top is the greatest value of 61 bits that a cell has.
const top = 2305843009213693951

// ref is the CRef of a place, spelt out: the tag CRef is 0.
func ref(at int) api.Cell {
	return api.Cell(at) * 8
}

// of is a heap of just these cells, with room for two more.
func of(t *testing.T, l ...api.Cell) *heap.Heap {
	t.Helper()
	h := heap.New(len(l) + 2)
	for i, c := range l {
		pushed(t, h, c, i)
	}
	return h
}

// pushed: c, pushed, is to stand at this place, behind all.
func pushed(t *testing.T, h *heap.Heap, c api.Cell, at int) {
	t.Helper()
	if n, e := h.Push(c); n != at || e != api.OK {
		t.Fatalf("Push(%x) = %d, %d; want %d", uint64(c), n, e, at)
	}
	if n := h.Len(); n != at+1 {
		t.Fatalf("Len behind the Push to %d = %d", at, n)
	}
}

// refused: Push and Var are to answer this error and to change nothing.
func refused(t *testing.T, h *heap.Heap, want api.Errno) {
	t.Helper()
	n := h.Len()
	if at, e := h.Push(7); at != 0 || e != want {
		t.Errorf("Push = %d, %d; want 0, %d", at, e, want)
	}
	if at, e := h.Var(); at != 0 || e != want {
		t.Errorf("Var = %d, %d; want 0, %d", at, e, want)
	}
	if h.Len() != n {
		t.Errorf("Len behind refusals = %d; want %d", h.Len(), n)
	}
}

// holds: h is to have just these cells.
func holds(t *testing.T, h *heap.Heap, l ...api.Cell) {
	t.Helper()
	if h.Len() != len(l) {
		t.Fatalf("Len = %d; want %d", h.Len(), len(l))
	}
	for at, want := range l {
		if c, ok := h.Get(at); c != want || !ok {
			t.Errorf("Get(%d) = %x, %t; want %x", at, uint64(c), ok, uint64(want))
		}
	}
	for _, at := range []int{-1, len(l), len(l) + 1} {
		if c, ok := h.Get(at); c != 0 || ok {
			t.Errorf("Get(%d) of %d cells = %x, %t; want nothing", at, len(l), uint64(c), ok)
		}
	}
}

// leads: Deref(c) is to be the cell want.
func leads(t *testing.T, h *heap.Heap, c, want api.Cell) {
	t.Helper()
	if got := h.Deref(c); got != want {
		t.Errorf("Deref(%x) = %x; want %x", uint64(c), uint64(got), uint64(want))
	}
}

// far: places that are none in any heap; some would be 0, or the last of three, in fewer bits.
func far() []int {
	return []int{-1, -2, -8, 1 << 20, 1 << 31, 1 << 32, 1<<32 + 2, 1 << 61, 1<<61 + 2, math.MaxInt, math.MaxInt - 1, math.MinInt, math.MinInt + 2}
}

// P5.1: a new heap is empty, with the room that was asked for, as far as there is any.
func TestNew(t *testing.T) {
	for _, x := range []struct{ most, want int }{
		{0, 0}, {1, 1}, {2, 2}, {1000, 1000}, {1<<20 - 1, 1<<20 - 1}, {1 << 20, 1 << 20}, {1<<20 + 1, 1 << 20},
		{1 << 30, 1 << 20}, {1 << 32, 1 << 20}, {1<<32 + 1, 1 << 20}, {math.MaxInt, 1 << 20}, {-1, 0}, {-2, 0}, {-1 << 32, 0}, {1 - 1<<32, 0}, {math.MinInt, 0}, {math.MinInt + 1, 0},
	} {
		h := heap.New(x.most)
		if h == nil {
			t.Fatalf("New(%d) = nil", x.most)
		}
		if h.Most() != x.want {
			t.Errorf("Most of New(%d) = %d; want %d", x.most, h.Most(), x.want)
		}
		holds(t, h)
	}
}

// P5.1: cells are told their places, one behind the other, whatever words they are.
func TestPush(t *testing.T) {
	l := []api.Cell{0, 7, 77, 0, ref(9), ref(4), 26, math.MaxUint64, 1 << 63, 6166, ref(top)}
	h := heap.New(len(l))
	for at, c := range l {
		pushed(t, h, c, at)
		holds(t, h, l[:at+1]...)
	}
	if h.Most() != len(l) {
		t.Errorf("Most behind pushes = %d; want %d", h.Most(), len(l))
	}
}

// P5.1: a variable is a CRef of its own place, wherever it stands.
func TestVar(t *testing.T) {
	h := heap.New(6)
	for at := range 3 {
		if n, e := h.Var(); n != at || e != api.OK {
			t.Errorf("Var = %d, %d; want %d", n, e, at)
		}
	}
	pushed(t, h, 77, 3)
	if n, e := h.Var(); n != 4 || e != api.OK {
		t.Errorf("Var = %d, %d; want 4", n, e)
	}
	h.Cut(2)
	pushed(t, h, 11, 2)
	if n, e := h.Var(); n != 3 || e != api.OK {
		t.Errorf("Var behind a Cut = %d, %d; want 3", n, e)
	}
	holds(t, h, ref(0), ref(1), 11, ref(3))
}

// P5.1: a heap takes as many cells as it has room for, and not one more.
func TestRoom(t *testing.T) {
	for _, most := range []int{-5, 0, 1, 2, 3, 4, 5, 8, 100, 1023} {
		h := heap.New(most)
		for at := range max(most, 0) {
			pushed(t, h, ref(at), at)
		}
		refused(t, h, api.ErrRoom)
	}
	h := heap.New(2)
	h.Push(5)
	if at, e := h.Var(); at != 1 || e != api.OK { // the last one that there is room for
		t.Errorf("Var = %d, %d; want 1", at, e)
	}
	refused(t, h, api.ErrRoom)
	holds(t, h, 5, ref(1))
}

// P5.1: no heap takes more than the most cells that there may be.
func TestRoomForMost(t *testing.T) {
	for _, most := range []int{1 << 20, 1<<20 + 1, math.MaxInt} {
		h := heap.New(most)
		for at := range 1 << 20 {
			if n, e := h.Push(api.Cell(at) ^ 5); n != at || e != api.OK {
				t.Fatalf("Push = %d, %d; want %d", n, e, at)
			}
		}
		refused(t, h, api.ErrRoom)
		for at := range 1 << 20 {
			if c, ok := h.Get(at); c != api.Cell(at)^5 || !ok {
				t.Fatalf("Get(%d) = %x, %t", at, uint64(c), ok)
			}
		}
		if !h.Cut(1<<20 - 1) {
			t.Error("Cut of the last cell")
		}
		if at, e := h.Var(); at != 1<<20-1 || e != api.OK {
			t.Errorf("Var = %d, %d; want the last place", at, e)
		}
		leads(t, h, ref(1<<20-1), ref(1<<20-1))
		refused(t, h, api.ErrRoom)
	}
}

// P5.1: Get tells the first cell and the last, and nothing beyond.
func TestGet(t *testing.T) {
	h := of(t, 11, 19, 27)
	holds(t, h, 11, 19, 27)
	for _, at := range append(far(), 3, 4, 5) {
		if c, ok := h.Get(at); c != 0 || ok {
			t.Errorf("Get(%d) = %x, %t; want nothing", at, uint64(c), ok)
		}
	}
	if c, ok := of(t, 0).Get(0); c != 0 || !ok {
		t.Errorf("Get(0) of a cell that is 0 = %x, %t", uint64(c), ok)
	}
}

// P5.1: Set writes the one cell it is told, and nothing where there is none.
func TestSet(t *testing.T) {
	h := of(t, 11, 19, 27)
	for _, at := range append(far(), 3, 4, 5) {
		if h.Set(at, 99) {
			t.Errorf("Set(%d) of three cells", at)
		}
		holds(t, h, 11, 19, 27)
	}
	if !h.Set(0, 5) || !h.Set(2, 7) {
		t.Error("Set of the first cell or the last is refused")
	}
	holds(t, h, 5, 19, 7)
	if !h.Set(1, ref(1)) || !h.Set(0, math.MaxUint64) || !h.Set(2, 7) {
		t.Error("Set over what was set is refused")
	}
	holds(t, h, math.MaxUint64, ref(1), 7)
	if heap.New(3).Set(0, 1) {
		t.Error("Set of a place that there is only room for")
	}
}

// P5.1: Cut takes what stands from n on, and nothing where n is neither a place nor the end.
func TestCut(t *testing.T) {
	h := of(t, 11, 19, 27, 35)
	for _, n := range append(far(), 5, 6, 7) {
		if h.Cut(n) {
			t.Errorf("Cut(%d) of four cells", n)
		}
		holds(t, h, 11, 19, 27, 35)
	}
	for _, n := range []int{4, 3, 1, 1, 0, 0} {
		if !h.Cut(n) {
			t.Errorf("Cut(%d) is refused", n)
		}
		holds(t, h, []api.Cell{11, 19, 27, 35}[:n]...)
	}
	if h.Cut(1) || h.Set(0, 5) {
		t.Error("what was cut off is there again")
	}
	if h.Most() != 6 {
		t.Errorf("Most behind Cut = %d; want 6", h.Most())
	}
}

// P5.1: behind a cut there is room again: for as many cells as were cut off.
func TestPushBehindCut(t *testing.T) {
	h := heap.New(3)
	for at := range 3 {
		pushed(t, h, 77, at)
	}
	refused(t, h, api.ErrRoom)
	h.Cut(3)
	refused(t, h, api.ErrRoom)
	h.Cut(2)
	pushed(t, h, 11, 2)
	refused(t, h, api.ErrRoom)
	holds(t, h, 77, 77, 11)
	h.Cut(0)
	for at := range 3 {
		pushed(t, h, 19, at)
	}
	refused(t, h, api.ErrRoom)
	holds(t, h, 19, 19, 19)
}

// P5.2: a cell that is no CRef is itself, also where its value is a place.
func TestDerefOfOthers(t *testing.T) {
	for _, h := range []*heap.Heap{heap.New(0), heap.New(5), of(t, 11, ref(0), 27)} {
		for tag := api.Cell(1); tag <= 7; tag++ {
			for _, value := range []api.Cell{0, 1, 2, 3, 9, 1000003, top} {
				leads(t, h, value*8+tag, value*8+tag)
			}
		}
	}
}

// P5.2: a CRef leads to the cell at its place, whatever tag that has.
func TestDerefToCell(t *testing.T) {
	for tag := api.Cell(1); tag <= 7; tag++ {
		for _, value := range []api.Cell{0, 1, 2, 3, 9, top} {
			c := value*8 + tag
			h := of(t, c, 77, ref(0), c)
			leads(t, h, ref(0), c)
			leads(t, h, ref(1), 77)
			leads(t, h, ref(2), c)
			leads(t, h, ref(3), c)
			holds(t, h, c, 77, ref(0), c)
		}
	}
}

// P5.2: a variable that is not bound leads to itself; so does what is bound to it.
func TestDerefToVariable(t *testing.T) {
	h := heap.New(5)
	h.Var()
	h.Push(ref(0))
	leads(t, h, ref(1), ref(0)) // the document's example
	h.Push(ref(1))
	h.Var()
	h.Push(ref(3))
	for at, want := range []int{0, 0, 0, 3, 3} {
		leads(t, h, ref(at), ref(want))
	}
	h.Set(0, 5)
	for at, want := range []api.Cell{5, 5, 5, ref(3), ref(3)} {
		leads(t, h, ref(at), want)
	}
}

// P5.2: a CRef of a place that there is not is told as it stands, handed in or met.
func TestDerefToNowhere(t *testing.T) {
	for _, place := range []int{3, 4, 5, 9999, 1 << 20, 1 << 32, 1<<32 + 1, 1 << 60, 1<<60 + 1, top - 1, top} {
		gone := ref(place)
		leads(t, of(t, 11, 19, 27), gone, gone)
		h := of(t, gone, ref(0), 77)
		leads(t, h, gone, gone)
		leads(t, h, ref(0), gone)
		leads(t, h, ref(1), gone)
		leads(t, heap.New(5), gone, gone)
	}
	leads(t, heap.New(5), ref(0), ref(0))
	h := of(t, ref(2), 77, 11)
	leads(t, h, ref(0), 11)
	h.Cut(2)
	leads(t, h, ref(0), ref(2)) // what was cut off is met no more
	leads(t, h, ref(2), ref(2))
}

// P5.2: a row of CRefs is followed to its end, up and down, though it goes through all cells that there are.
func TestDerefOfRows(t *testing.T) {
	for _, n := range []int{1, 2, 3, 4, 100, 1<<20 - 1} {
		for _, end := range []api.Cell{77, math.MaxUint64, ref(n - 1), ref(n), ref(top)} {
			up := heap.New(n)
			for at := range n - 1 {
				up.Push(ref(at + 1))
			}
			up.Push(end)
			leads(t, up, ref(0), end)
			leads(t, up, ref(n/2), end)
			leads(t, up, ref(n-1), end)
		}
		for _, end := range []api.Cell{77, math.MaxUint64, ref(0), ref(n), ref(top)} {
			down := heap.New(n)
			down.Push(end)
			for at := range n - 1 {
				down.Push(ref(at))
			}
			leads(t, down, ref(n-1), end)
			leads(t, down, ref(n/2), end)
			leads(t, down, ref(0), end)
		}
	}
}

// P5.2: in a ring, what is reached behind as many steps as there are cells.
func TestDerefOfRings(t *testing.T) {
	three := of(t, ref(1), ref(2), ref(0))
	for at := range 3 {
		leads(t, three, ref(at), ref(at))
	}
	two := of(t, ref(1), ref(0), ref(0), 77, ref(2))
	for at, want := range []api.Cell{ref(1), ref(0), ref(0), 77, ref(1)} {
		leads(t, two, ref(at), want)
	}
	two.Cut(4) // fewer cells, fewer steps
	for at, want := range []api.Cell{ref(0), ref(1), ref(1), 77, ref(4)} {
		leads(t, two, ref(at), want)
	}
	set := heap.New(10)
	set.Var()
	set.Var()
	set.Set(0, ref(1))
	leads(t, set, ref(0), ref(1))
	set.Set(1, ref(0))
	leads(t, set, ref(0), ref(0))
	leads(t, set, ref(1), ref(1))
	set.Set(1, 5) // no ring any more
	leads(t, set, ref(0), 5)
}

// P5.2: a ring of all cells that there may be comes to an end too.
func TestDerefOfGreatestRing(t *testing.T) {
	h := heap.New(1 << 20)
	for at := range 1 << 20 {
		h.Push(ref((at + 1) % (1 << 20)))
	}
	leads(t, h, ref(5), ref(5))
}

// P5.1, P5.2: a nil heap.
func TestNil(t *testing.T) {
	var h *heap.Heap
	refused(t, h, api.ErrArg)
	holds(t, h)
	for _, n := range append(far(), 0, 1) {
		if c, ok := h.Get(n); c != 0 || ok {
			t.Errorf("Get(%d) = %x, %t; want nothing", n, uint64(c), ok)
		}
		if h.Set(n, 5) || h.Cut(n) {
			t.Errorf("Set or Cut of %d", n)
		}
	}
	if h.Most() != 0 {
		t.Errorf("Most = %d; want 0", h.Most())
	}
	for _, c := range []api.Cell{0, 7, 9, 77, ref(1), ref(top), math.MaxUint64} {
		leads(t, h, c, 0)
	}
}

// A heap that New did not make has room for none.
func TestZero(t *testing.T) {
	var h heap.Heap
	refused(t, &h, api.ErrRoom)
	holds(t, &h)
	leads(t, &h, ref(0), ref(0))
	leads(t, &h, 77, 77)
	if h.Most() != 0 || !h.Cut(0) || h.Cut(1) || h.Set(0, 5) {
		t.Error("a zero heap is not an empty one")
	}
}

// P5.3: what is pushed stands where it was told, however many come behind it, till it is cut off.
func TestStands(t *testing.T) {
	h := heap.New(5000)
	for at := range 5000 {
		pushed(t, h, api.Cell(at*at)^3, at)
	}
	for _, n := range []int{5000, 4999, 2500, 17, 1, 0} {
		h.Cut(n)
		for at := range 5000 {
			c, ok := h.Get(at)
			if ok != (at < n) || ok && c != api.Cell(at*at)^3 {
				t.Fatalf("Get(%d) of %d cells = %x, %t", at, n, uint64(c), ok)
			}
		}
	}
}

// P5.3: heaps keep to themselves.
func TestApart(t *testing.T) {
	g, h := heap.New(4), heap.New(8)
	for at := range 4 {
		pushed(t, g, 11, at)
		pushed(t, h, 19, at)
	}
	g.Set(0, 5)
	h.Cut(1)
	pushed(t, h, 27, 1)
	holds(t, g, 5, 11, 11, 11)
	holds(t, h, 19, 27)
	refused(t, g, api.ErrRoom)
	if g.Most() != 4 || h.Most() != 8 {
		t.Error(g.Most(), h.Most())
	}
}

// P5.1 to P5.3: many calls in a row, held against a plain list.
func TestAgainstList(t *testing.T) {
	const room = 40
	h := heap.New(room)
	var l []api.Cell
	next := uint64(1)
	draw := func(n int) int { // numbers that are the same in each run
		next = next*6364136223846793005 + 1442695040888963407
		return int(next>>33) % n
	}
	for range 5000 {
		c := api.Cell(draw(1 << 20))
		switch draw(6) {
		case 0, 1:
			if len(l) < room {
				pushed(t, h, c, len(l))
				l = append(l, c)
			} else {
				refused(t, h, api.ErrRoom)
			}
		case 2:
			if len(l) == room {
				refused(t, h, api.ErrRoom)
			} else if at, e := h.Var(); at != len(l) || e != api.OK {
				t.Fatalf("Var = %d, %d; want %d", at, e, len(l))
			} else {
				l = append(l, ref(at))
			}
		case 3, 4:
			at := draw(room+2) - 1
			if h.Set(at, c) != (at >= 0 && at < len(l)) {
				t.Fatalf("Set(%d) of %d cells", at, len(l))
			}
			if at >= 0 && at < len(l) {
				l[at] = c
			}
		case 5:
			n := draw(4*room) - 1
			if h.Cut(n) != (n >= 0 && n <= len(l)) {
				t.Fatalf("Cut(%d) of %d cells", n, len(l))
			}
			if n >= 0 && n <= len(l) {
				l = l[:n]
			}
		}
		holds(t, h, l...)
	}
}
