package cell_test

import (
	"math"
	"testing"

	"elenchus/api"
	"elenchus/cell"
)

// top is the greatest number of 61 bits.
const top = 2305843009213693951

// The numbers that Small takes lie between these.
const (
	least = -1152921504606846976
	most  = 1152921504606846975
)

// values: numbers of up to 61 bits: each bit alone, all up to it, and ordinary ones.
func values() []uint64 {
	l := []uint64{0, 3, 7, 8, 77, 256, 1000003, 0x0123456789abcdef, top, top - 1, top - 7}
	for bit := range 61 {
		l = append(l, 1<<bit, 1<<bit-1, top-1<<bit)
	}
	return l
}

// words: cells of all tags, 7 too, with these values.
func words() []api.Cell {
	var l []api.Cell
	for _, n := range values() {
		for tag := range uint64(8) {
			l = append(l, api.Cell(n*8+tag))
		}
	}
	return l
}

// made: Make(tag, n) is to be the word w.
func made(t *testing.T, tag int, n uint64, w api.Cell) {
	t.Helper()
	if c, ok := cell.Make(tag, n); c != w || !ok {
		t.Errorf("Make(%d, %d) = %x, %t; want %x", tag, n, uint64(c), ok, uint64(w))
	}
}

// notMade: Make(tag, n) is to be nothing.
func notMade(t *testing.T, tag int, n uint64) {
	t.Helper()
	if c, ok := cell.Make(tag, n); c != 0 || ok {
		t.Errorf("Make(%d, %d) = %x, %t; want nothing", tag, n, uint64(c), ok)
	}
}

// P4.1: the words that tags and values make, spelt out.
func TestMakeByName(t *testing.T) {
	made(t, api.CRef, 0, 0)
	made(t, api.CRef, 1, 8)
	made(t, api.CRef, 5, 40)
	made(t, api.CStr, 0, 1)
	made(t, api.CStr, 2, 17)
	made(t, api.CAtm, 0, 2)
	made(t, api.CAtm, 3, 26)
	made(t, api.CInt, 0, 3)
	made(t, api.CInt, 7, 59)
	made(t, api.CBig, 0, 4)
	made(t, api.CBig, 100, 804)
	made(t, api.CCpx, 0, 5)
	made(t, api.CCpx, 100, 805)
	made(t, api.CFun, 0, 6)
	made(t, api.CFun, 3*256+2, 6166)
	made(t, api.CRef, top, 0xfffffffffffffff8)
	made(t, api.CFun, top, 0xfffffffffffffffe)
}

// P4.1: each tag there is takes each value; no other tag takes any.
func TestMakeTags(t *testing.T) {
	for _, n := range values() {
		for tag := 0; tag <= 6; tag++ {
			made(t, tag, n, api.Cell(n*8+uint64(tag)))
		}
		for _, tag := range []int{-1, 7, -2, -7, -8, 8, 9, 14, 15, 256, 1 << 32, 1<<32 + 1, math.MinInt, math.MinInt + 3, math.MaxInt} {
			notMade(t, tag, n)
		}
	}
}

// P4.1: a value has 61 bits, not one more.
func TestMakeValueBounds(t *testing.T) {
	for tag := 0; tag <= 6; tag++ {
		made(t, tag, top, api.Cell(0xfffffffffffffff8+uint64(tag)))
		for _, n := range []uint64{top + 1, top + 2, top + 78, 1 << 62, 1 << 63, 1<<62 + 5, 1<<63 + 5, 3 << 61, 7 << 61, 7<<61 + 77, math.MaxUint64 - 1, math.MaxUint64} {
			notMade(t, tag, n)
		}
	}
	notMade(t, -1, math.MaxUint64)
	notMade(t, 7, top+1)
}

// P4.1: the tag and the value of any word, 7 too.
func TestTagAndValue(t *testing.T) {
	for _, x := range []struct {
		c   api.Cell
		tag int
		n   uint64
	}{
		{0, 0, 0}, {1, 1, 0}, {6, 6, 0}, {7, 7, 0}, {8, 0, 1}, {15, 7, 1}, {26, 2, 3},
		{1 << 63, 0, 1 << 60}, {1<<63 + 7, 7, 1 << 60}, {math.MaxUint64, 7, top}, {math.MaxUint64 - 7, 0, top}, {math.MaxUint64 - 4, 3, top},
	} {
		if tag, n := cell.Tag(x.c), cell.Value(x.c); tag != x.tag || n != x.n {
			t.Errorf("%x: Tag %d, Value %d; want %d, %d", uint64(x.c), tag, n, x.tag, x.n)
		}
	}
	for _, c := range words() {
		if tag, n := cell.Tag(c), cell.Value(c); tag != int(c%8) || n != uint64(c)/8 {
			t.Errorf("%x: Tag %d, Value %d", uint64(c), tag, n)
		}
	}
}

// numbers: such as Small takes: the edges, what lies around each bit, and ordinary ones.
func numbers() []int64 {
	l := []int64{0, 1, -1, 7, -7, 8, -8, 12345, -12345, least, least + 1, most, most - 1}
	for bit := range 60 {
		l = append(l, 1<<bit, 1<<bit-1, -1<<bit, -1<<bit-1)
	}
	return l
}

// P4.1: the cells of numbers, spelt out.
func TestSmallByName(t *testing.T) {
	for _, x := range []struct {
		n int64
		w api.Cell
	}{
		{0, 3}, {1, 11}, {2, 19}, {-1, 0xfffffffffffffffb}, {-2, 0xfffffffffffffff3}, {most, 0x7ffffffffffffffb}, {least, 0x8000000000000003},
	} {
		if c, ok := cell.Small(x.n); c != x.w || !ok {
			t.Errorf("Small(%d) = %x, %t; want %x", x.n, uint64(c), ok, uint64(x.w))
		}
	}
	if c, _ := cell.Small(-1); cell.Value(c) != top {
		t.Errorf("Value of Small(-1) = %d; want %d", cell.Value(c), uint64(top))
	}
}

// P4.1: Small takes -2^60 to 2^60 - 1.
func TestSmallTakes(t *testing.T) {
	for _, n := range numbers() {
		c, ok := cell.Small(n)
		if !ok || cell.Tag(c) != api.CInt || cell.Int(c) != n {
			t.Errorf("Small(%d) = %x, %t: Tag %d, Int %d", n, uint64(c), ok, cell.Tag(c), cell.Int(c))
		}
	}
}

// P4.1: what lies beyond, on either side, Small refuses, also where its lowest 61 bits are a number's.
func TestSmallRefuses(t *testing.T) {
	for _, n := range []int64{most + 1, most + 2, least - 1, least - 2, 1 << 61, 1<<61 + 5, 1<<61 - 1, 1 << 62, 1<<62 + 5, 3 << 61, -1 << 61, -1<<61 + 5, -1<<61 - 1, -1 << 62, -1<<62 + 5, -3 << 61, math.MaxInt64, math.MaxInt64 - 1, math.MinInt64, math.MinInt64 + 1, math.MinInt64 + 5} {
		if c, ok := cell.Small(n); c != 0 || ok {
			t.Errorf("Small(%d) = %x, %t; want nothing", n, uint64(c), ok)
		}
	}
}

// P4.1: Int of any cell, whatever its tag: its 61 bits with a sign.
func TestIntOfAnyCell(t *testing.T) {
	for _, x := range []struct {
		c api.Cell
		n int64
	}{
		{0, 0}, {7, 0}, {8, 1}, {11, 1}, {15, 1}, {6166, 3*256 + 2},
		{math.MaxUint64, -1}, {math.MaxUint64 - 7, -1}, {math.MaxUint64 - 8, -2},
		{1 << 63, least}, {1<<63 + 7, least}, {1<<63 - 1, most}, {1<<63 - 8, most},
	} {
		if n := cell.Int(x.c); n != x.n {
			t.Errorf("Int(%x) = %d; want %d", uint64(x.c), n, x.n)
		}
	}
	for _, c := range words() {
		want := int64(c / 8)
		if want > most {
			want -= top
			want--
		}
		if n := cell.Int(c); n != want {
			t.Errorf("Int(%x) = %d; want %d", uint64(c), n, want)
		}
	}
}

// P4.2: the cells of functors, spelt out, at the edges too.
func TestFunctorByName(t *testing.T) {
	for _, x := range []struct {
		atom, arity int
		w           api.Cell
	}{
		{0, 1, 8*1 + 6}, {0, 20, 8*20 + 6}, {1, 2, 8*258 + 6}, {2, 3, 8*515 + 6}, {3, 2, 6166}, {4095, 1, 8*1048321 + 6}, {4095, 20, 8*1048340 + 6},
	} {
		if c, ok := cell.Functor(x.atom, x.arity); c != x.w || !ok {
			t.Errorf("Functor(%d, %d) = %x, %t; want %x", x.atom, x.arity, uint64(c), ok, uint64(x.w))
		}
	}
}

// P4.2: atoms and arities beyond their ends; also such as are right but for bits that an int has above.
func TestFunctorRefuses(t *testing.T) {
	atoms := []int{-1, 4096, -2, 4097, 1 << 20, 1 << 32, 1<<53 + 5, 1 << 56, 1 << 61, math.MinInt, math.MinInt + 5, math.MaxInt}
	arities := []int{0, 21, -1, -2, 22, 255, 256, 257, -255, 1 << 32, 1<<32 + 1, math.MinInt, math.MinInt + 5, math.MaxInt}
	refuse := func(atom, arity int) {
		if c, ok := cell.Functor(atom, arity); c != 0 || ok {
			t.Errorf("Functor(%d, %d) = %x, %t; want nothing", atom, arity, uint64(c), ok)
		}
	}
	for _, atom := range atoms {
		for arity := 1; arity <= 20; arity++ {
			refuse(atom, arity)
		}
	}
	for _, arity := range arities {
		for _, atom := range append(atoms, 0, 1, 300, 4095) {
			refuse(atom, arity)
		}
	}
}

// P4.2: the parts of any cell with a functor's tag, also of such as Functor makes none of.
func TestPartsOfAnyFunctor(t *testing.T) {
	for _, x := range []struct {
		n           uint64
		atom, arity int
	}{
		{0, 0, 0}, {1, 0, 1}, {20, 0, 20}, {21, 0, 21}, {255, 0, 255}, {256, 1, 0}, {257, 1, 1}, {3*256 + 2, 3, 2},
		{4095*256 + 20, 4095, 20}, {4096*256 + 1, 4096, 1}, {1 << 60, 1 << 52, 0}, {top, 1<<53 - 1, 255},
	} {
		if atom, arity := cell.Parts(api.Cell(x.n*8 + 6)); atom != x.atom || arity != x.arity {
			t.Errorf("Parts of a functor of %d = %d, %d; want %d, %d", x.n, atom, arity, x.atom, x.arity)
		}
	}
	for _, n := range values() {
		if atom, arity := cell.Parts(api.Cell(n*8 + 6)); atom != int(n/256) || arity != int(n%256) {
			t.Errorf("Parts of a functor of %d = %d, %d", n, atom, arity)
		}
	}
}

// P4.2: a cell that is no functor has no parts.
func TestPartsOfOthers(t *testing.T) {
	for _, c := range words() {
		if c%8 == 6 {
			continue
		}
		if atom, arity := cell.Parts(c); atom != 0 || arity != 0 {
			t.Errorf("Parts(%x) = %d, %d; want nothing", uint64(c), atom, arity)
		}
	}
}

// P4.3: what Make made is told as it was.
func TestMadeIsTold(t *testing.T) {
	for tag := 0; tag <= 6; tag++ {
		for _, n := range values() {
			c, ok := cell.Make(tag, n)
			if !ok || cell.Tag(c) != tag || cell.Value(c) != n {
				t.Errorf("Make(%d, %d): Tag %d, Value %d", tag, n, cell.Tag(c), cell.Value(c))
			}
		}
	}
}

// P4.3: what Small made is told as it was, and is what Make makes of it.
func TestSmallIsTold(t *testing.T) {
	for _, n := range numbers() {
		c, ok := cell.Small(n)
		again, okAgain := cell.Make(api.CInt, cell.Value(c))
		if !ok || !okAgain || c != again || cell.Int(again) != n {
			t.Errorf("Small(%d) = %x; Make of its Value = %x", n, uint64(c), uint64(again))
		}
	}
}

// P4.3: what Functor made is told as it was, each atom with each arity, and is what Make makes of it.
func TestFunctorIsTold(t *testing.T) {
	for atom := range api.MaxAtoms {
		for arity := 1; arity <= api.MaxArity; arity++ {
			c, ok := cell.Functor(atom, arity)
			gotAtom, gotArity := cell.Parts(c)
			if !ok || cell.Tag(c) != api.CFun || gotAtom != atom || gotArity != arity {
				t.Fatalf("Functor(%d, %d) = %x, %t: Tag %d, Parts %d, %d", atom, arity, uint64(c), ok, cell.Tag(c), gotAtom, gotArity)
			}
			if again, _ := cell.Make(api.CFun, uint64(atom)*256+uint64(arity)); again != c {
				t.Fatalf("Functor(%d, %d) = %x; Make = %x", atom, arity, uint64(c), uint64(again))
			}
		}
	}
}
