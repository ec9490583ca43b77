package atoms_test

import (
	"math"
	"strconv"
	"strings"
	"testing"

	"elenchus/api"
	"elenchus/atoms"
)

// number asks for name's number, and wants n.
func number(t *testing.T, x *atoms.Table, name string, n int) {
	t.Helper()
	if got, e := x.Number(name); got != n || e != api.OK {
		t.Errorf("Number(%.40q) = %d, %d; want %d", name, got, e, n)
	}
}

// refused asks for name's number, and wants e; nothing is to come of it.
func refused(t *testing.T, x *atoms.Table, name string, e api.Errno) {
	t.Helper()
	was := x.Len()
	if n, got := x.Number(name); n != 0 || got != e {
		t.Errorf("Number(%.40q) = %d, %d; want 0, %d", name, n, got, e)
	}
	if x.Len() != was {
		t.Errorf("behind Number(%.40q), which is refused, there are %d names, not %d", name, x.Len(), was)
	}
	unknown(t, x, name)
}

// unknown: Find is to tell nothing of name.
func unknown(t *testing.T, x *atoms.Table, name string) {
	t.Helper()
	if n, ok := x.Find(name); n != 0 || ok {
		t.Errorf("Find(%.40q) = %d, %t; want 0, false", name, n, ok)
	}
}

// noName: Name is to tell nothing of n.
func noName(t *testing.T, x *atoms.Table, n int) {
	t.Helper()
	if s, ok := x.Name(n); s != "" || ok {
		t.Errorf("Name(%d) = %.40q, %t; want nothing", n, s, ok)
	}
}

// has: these names alone are to be in x, each by its place.
func has(t *testing.T, x *atoms.Table, names []string) {
	t.Helper()
	if x.Len() != len(names) {
		t.Fatalf("Len() = %d; want %d", x.Len(), len(names))
	}
	for i, s := range names {
		if n, ok := x.Find(s); n != i || !ok {
			t.Errorf("Find(%.40q) = %d, %t; want %d", s, n, ok, i)
		}
		if got, ok := x.Name(i); got != s || !ok {
			t.Errorf("Name(%d) = %.40q, %t; want %.40q", i, got, ok, s)
		}
	}
	noName(t, x, len(names))
}

// full is a table with as many names as there may be, and these.
func full(t *testing.T) (*atoms.Table, []string) {
	t.Helper()
	x, names := atoms.New(), []string{"[]", "."}
	for len(names) < api.MaxAtoms {
		s := "n" + strconv.Itoa(len(names))
		number(t, x, s, len(names))
		names = append(names, s)
	}
	return x, names
}

// P2.1: what a new table has.
func TestNew(t *testing.T) {
	x := atoms.New()
	has(t, x, []string{"[]", "."})
	unknown(t, x, "")
	unknown(t, x, "a")
	number(t, x, ".", 1)
	number(t, x, "[]", 0)
	has(t, x, []string{"[]", "."})
}

// P2.1: names get the next number, in the order in which they are first met.
func TestNumber(t *testing.T) {
	x := atoms.New()
	number(t, x, "a", 2)
	number(t, x, "[]", 0)
	number(t, x, "a", 2)
	number(t, x, "b", 3)
	number(t, x, ".", 1)
	number(t, x, "a", 2)
	number(t, x, "c", 4)
	has(t, x, []string{"[]", ".", "a", "b", "c"})
}

// P2.1: names are bytes, any of them; none is made one with another that looks like it.
func TestNamesAreBytes(t *testing.T) {
	names := []string{"[]", ".", "", " ", "A", "a", "a ", " a", "a\x00", "\x00", "\n", "''", "'a'", "[ ]", "[", "é", "e\u0301", "\xff", "\xfe", "\ufffd", "0", "00", "-0"}
	x := atoms.New()
	for i, s := range names {
		number(t, x, s, i)
	}
	for i, s := range names {
		number(t, x, s, i)
	}
	has(t, x, names)
}

// P2.1: Find and Name ask, and add nothing.
func TestAskingAddsNothing(t *testing.T) {
	x := atoms.New()
	unknown(t, x, "a")
	noName(t, x, 2)
	unknown(t, x, "a")
	if x.Len() != 2 {
		t.Error("Len() =", x.Len())
	}
	number(t, x, "b", 2)
	has(t, x, []string{"[]", ".", "b"})
}

// P2.1: numbers that are none's.
func TestNameOutOfRange(t *testing.T) {
	x := atoms.New()
	number(t, x, "a", 2)
	for _, n := range []int{-1, -2, -3, 3, 4, api.MaxAtoms - 1, api.MaxAtoms, 1 << 32, math.MaxInt, math.MinInt} {
		noName(t, x, n)
	}
}

// P2.1: a name has at most MaxName bytes, not letters.
func TestLongNames(t *testing.T) {
	x := atoms.New()
	longest := strings.Repeat("b", api.MaxName)
	refused(t, x, longest+"b", api.ErrLong)
	number(t, x, longest, 2)
	number(t, x, longest[1:], 3)
	refused(t, x, longest+"b", api.ErrLong)
	refused(t, x, strings.Repeat("x", 1<<20), api.ErrLong)
	wide := strings.Repeat("é", api.MaxName/2)
	number(t, x, wide, 4)
	refused(t, x, wide+"é", api.ErrLong)
	has(t, x, []string{"[]", ".", longest, longest[1:], wide})
}

// P2.1: there are at most MaxAtoms names; those that are there are told as ever.
func TestFull(t *testing.T) {
	x, names := full(t)
	refused(t, x, "one more", api.ErrFull)
	refused(t, x, "", api.ErrFull)
	refused(t, x, "one more", api.ErrFull)
	refused(t, x, strings.Repeat("b", api.MaxName), api.ErrFull)
	for i, s := range names {
		number(t, x, s, i)
	}
	has(t, x, names)
}

// P2.1: a name that is too long is told as that, full or not (R4).
func TestLongAheadOfFull(t *testing.T) {
	x, _ := full(t)
	refused(t, x, strings.Repeat("b", api.MaxName+1), api.ErrLong)
}

// P2.1: the last number there is.
func TestLastNumber(t *testing.T) {
	x, names := full(t)
	last := api.MaxAtoms - 1
	if s, ok := x.Name(last); s != names[last] || !ok {
		t.Errorf("Name(%d) = %q, %t", last, s, ok)
	}
	noName(t, x, api.MaxAtoms)
}

// P2.1: a nil table tells ErrArg and zero values, whatever is asked.
func TestNilTable(t *testing.T) {
	var x *atoms.Table
	for _, s := range []string{"", "[]", ".", "a", strings.Repeat("b", api.MaxName+1)} {
		refused(t, x, s, api.ErrArg)
	}
	for _, n := range []int{-1, 0, 1, 2} {
		noName(t, x, n)
	}
	if x.Len() != 0 {
		t.Error("Len() =", x.Len())
	}
}

// R3: a table that New did not make is as New's, whichever call comes first.
func TestZeroTable(t *testing.T) {
	for i, first := range []func(x *atoms.Table){
		func(x *atoms.Table) { number(t, x, "[]", 0) },
		func(x *atoms.Table) { number(t, x, ".", 1) },
		func(x *atoms.Table) { unknown(t, x, "a") },
		func(x *atoms.Table) { noName(t, x, 2) },
		func(x *atoms.Table) { refused(t, x, strings.Repeat("b", api.MaxName+1), api.ErrLong) },
		func(x *atoms.Table) {
			if x.Len() != 2 {
				t.Error("Len() =", x.Len())
			}
		},
	} {
		x := &atoms.Table{}
		first(x)
		has(t, x, []string{"[]", "."})
		number(t, x, "a", 2)
		if t.Failed() {
			t.Fatal("call", i)
		}
	}
	number(t, &atoms.Table{}, "a", 2)
}

// P2.2: each name has one number, for ever, whatever is asked between, refused or not; each number one name.
func TestOneNumberForEver(t *testing.T) {
	x, names := atoms.New(), []string{"[]", "."}
	first := map[string]int{"[]": 0, ".": 1}
	long := strings.Repeat("b", api.MaxName+1)
	for i := range 3 * api.MaxAtoms {
		s := strconv.Itoa(i * i % 9973) // about half of them have been met
		want, met := first[s]
		if !met {
			want = len(names)
		}
		if want == api.MaxAtoms {
			refused(t, x, s, api.ErrFull)
			continue
		}
		if n, ok := x.Find(s); ok != met || met && n != want {
			t.Fatalf("Find(%q) = %d, %t; want %d, %t", s, n, ok, want, met)
		}
		number(t, x, s, want)
		if !met {
			first[s] = want
			names = append(names, s)
		}
		x.Number(long)
		x.Name(i)
	}
	if len(names) != api.MaxAtoms {
		t.Error("the table is not full:", len(names))
	}
	has(t, x, names)
}

// P2.2: tables are nothing to one another.
func TestTablesApart(t *testing.T) {
	x, y := atoms.New(), atoms.New()
	number(t, x, "a", 2)
	number(t, x, "b", 3)
	number(t, y, "b", 2)
	unknown(t, y, "a")
	number(t, y, "c", 3)
	has(t, x, []string{"[]", ".", "a", "b"})
	has(t, y, []string{"[]", ".", "b", "c"})
}

// P2.2: a name that came as a piece of a text is the name, whatever becomes of the text's bytes.
func TestPiecesOfTexts(t *testing.T) {
	b := []byte("foo(bar)")
	x := atoms.New()
	number(t, x, string(b[:3]), 2)
	s := string(b)
	number(t, x, s[4:7], 3)
	b[0] = 'g'
	has(t, x, []string{"[]", ".", "foo", "bar"})
	unknown(t, x, "goo")
}
