package ops_test

import (
	"fmt"
	"math"
	"math/rand"
	"slices"
	"strings"
	"testing"

	"elenchus/api"
	"elenchus/ops"
)

func op(name string, kind, priority int) api.Op {
	return api.Op{Name: name, Type: kind, Priority: priority}
}

// atFirst is what New has, in All's order, written out.
func atFirst() []api.Op {
	return []api.Op{
		op("*", api.YFX, 400),
		op("+", api.YFX, 500),
		op(",", api.XFY, 1000),
		op("-", api.FY, 200),
		op("-", api.YFX, 500),
		op("->", api.XFY, 1050),
		op("//", api.YFX, 400),
		op(":-", api.FX, 1200),
		op(":-", api.XFX, 1200),
		op(";", api.XFY, 1100),
		op("<", api.XFX, 700),
		op("=", api.XFX, 700),
		op("=..", api.XFX, 700),
		op("=:=", api.XFX, 700),
		op("=<", api.XFX, 700),
		op("==", api.XFX, 700),
		op(`=\=`, api.XFX, 700),
		op(">", api.XFX, 700),
		op(">=", api.XFX, 700),
		op("@<", api.XFX, 700),
		op("@=<", api.XFX, 700),
		op("@>", api.XFX, 700),
		op("@>=", api.XFX, 700),
		op(`\+`, api.FY, 900),
		op(`\=`, api.XFX, 700),
		op(`\==`, api.XFX, 700),
		op("^", api.XFY, 200),
		op("is", api.XFX, 700),
		op("mod", api.YFX, 400),
		op("rem", api.YFX, 400),
	}
}

// isFront: does an operator of that type stand in front?
func isFront(kind int) bool { return kind == api.FY || kind == api.FX }

// has: t is to have just these, however one asks.
func has(t *testing.T, x *ops.Table, want []api.Op) {
	t.Helper()
	if l := x.All(); !slices.Equal(l, want) {
		t.Errorf("All() = %v; want %v", l, want)
	}
	names := []string{"", "none", "|", "[]", "isn", "i", "="}
	for _, o := range want {
		names = append(names, o.Name)
	}
	for _, name := range names {
		asks(t, x, want, name)
	}
}

// asks: of that name x is to have just what stands in want.
func asks(t *testing.T, x *ops.Table, want []api.Op, name string) {
	t.Helper()
	var front, between api.Op
	for _, o := range want {
		if o.Name == name && isFront(o.Type) {
			front = o
		} else if o.Name == name {
			between = o
		}
	}
	if o, ok := x.Prefix(name); o != front || ok != (front.Type != 0) {
		t.Errorf("Prefix(%q) = %v, %v; want %v", name, o, ok, front)
	}
	if o, ok := x.Infix(name); o != between || ok != (between.Type != 0) {
		t.Errorf("Infix(%q) = %v, %v; want %v", name, o, ok, between)
	}
}

// sets: Set of o is to answer want.
func sets(t *testing.T, x *ops.Table, o api.Op, want api.Errno) {
	t.Helper()
	if e := x.Set(o); e != want {
		t.Errorf("Set(%.20q, %d, %d) = %d; want %d", o.Name, o.Type, o.Priority, e, want)
	}
}

// without is l without its operators of that name.
func without(l []api.Op, name string) []api.Op {
	return slices.DeleteFunc(slices.Clone(l), func(o api.Op) bool { return o.Name == name })
}

// P12.1: each of New's operators, and no others.
func TestNew(t *testing.T) {
	x := ops.New()
	has(t, x, atFirst())
	if o, ok := x.Infix("is"); o != op("is", api.XFX, 700) || !ok {
		t.Error(o, ok)
	}
	for _, name := range []string{"+", "*", "//", "->", ";", ",", "=", "is", "mod", "^"} {
		if o, ok := x.Prefix(name); o != (api.Op{}) || ok {
			t.Errorf("Prefix(%q) = %v, %v", name, o, ok)
		}
	}
	for _, name := range []string{`\+`, "|", "[]", "", "/", "**", "?-", "-->", "dynamic", "Is", "is ", " is", "i", "iss", "\x00"} {
		if o, ok := x.Infix(name); o != (api.Op{}) || ok {
			t.Errorf("Infix(%q) = %v, %v", name, o, ok)
		}
	}
	for _, name := range []string{"?-", "+", `\`, "|", "[]", ""} {
		if o, ok := x.Prefix(name); o != (api.Op{}) || ok {
			t.Errorf("Prefix(%q) = %v, %v", name, o, ok)
		}
	}
}

// P12.1: what is set in one table is in no other.
func TestNewTwice(t *testing.T) {
	x, y := ops.New(), ops.New()
	sets(t, x, op("is", api.XFY, 1), api.OK)
	sets(t, x, op("mod", api.XFY, 0), api.OK)
	sets(t, x, op("new", api.FX, 5), api.OK)
	has(t, y, atFirst())
	has(t, ops.New(), atFirst())
}

// P12.2: what may not be set, and that nothing comes of it.
func TestSetRefuses(t *testing.T) {
	x := ops.New()
	for _, name := range []string{"x", "is", "-"} {
		for _, kind := range []int{0, 6, 7, -1, -5, 256 + api.FX, math.MaxInt, math.MinInt} {
			for _, priority := range []int{0, 1, 700, 1200} {
				sets(t, x, op(name, kind, priority), api.ErrArg)
			}
		}
		for kind := api.XFX; kind <= api.FX; kind++ {
			for _, priority := range []int{-1, 1201, -1200, 65536, math.MaxInt, math.MinInt} {
				sets(t, x, op(name, kind, priority), api.ErrArg)
			}
		}
	}
	for kind := api.XFX; kind <= api.FX; kind++ {
		for _, name := range []string{"", ",", "|", "[]", strings.Repeat("x", api.MaxName+1), strings.Repeat("x", 1<<20)} {
			for _, priority := range []int{0, 1, 1000, 1200} {
				sets(t, x, op(name, kind, priority), api.ErrArg)
			}
		}
	}
	has(t, x, atFirst())
}

// P12.2: names that are near those that may not be set; each type, and the bounds of priorities and of names.
func TestSetTakes(t *testing.T) {
	for _, name := range []string{"x", " ", "\x00", "\xff", "é", ", ", ",,", "||", "[", "]", "[ ]", "[]a", "{}", "()", ".", "!", "A", "1", "a b", "'", strings.Repeat("x", api.MaxName), strings.Repeat("é", api.MaxName/2)} {
		for kind := api.XFX; kind <= api.FX; kind++ {
			for _, priority := range []int{1, 2, 200, 999, 1199, 1200} {
				x, o := ops.New(), op(name, kind, priority)
				sets(t, x, o, api.OK)
				want := append(atFirst(), o)
				slices.SortStableFunc(want, func(a, b api.Op) int { return strings.Compare(a.Name, b.Name) }) // of one name the front stays ahead
				has(t, x, want)
				sets(t, x, op(name, kind, 0), api.OK)
				has(t, x, atFirst())
			}
		}
	}
}

// P12.2: one that is there becomes another: by its place and its name alone.
func TestSetAgain(t *testing.T) {
	for first := api.XFX; first <= api.FX; first++ {
		for second := api.XFX; second <= api.FX; second++ {
			x := ops.New()
			sets(t, x, op("zz", first, 3), api.OK)
			sets(t, x, op("zz", second, 8), api.OK)
			want := atFirst()
			if isFront(first) && !isFront(second) {
				want = append(want, op("zz", first, 3))
			}
			want = append(want, op("zz", second, 8))
			if isFront(second) && !isFront(first) {
				want = append(want, op("zz", first, 3))
			}
			has(t, x, want)
		}
	}
}

// P12.2: New's may be changed and taken out as well, but for the comma.
func TestSetNews(t *testing.T) {
	for i, o := range atFirst() {
		if o.Name == "," {
			continue
		}
		kinds := []int{api.XFX, api.XFY, api.YFX}
		if isFront(o.Type) {
			kinds = []int{api.FY, api.FX}
		}
		for _, kind := range kinds {
			x, want := ops.New(), atFirst()
			want[i] = op(o.Name, kind, 77)
			sets(t, x, want[i], api.OK)
			has(t, x, want)
			sets(t, x, op(o.Name, kind, 0), api.OK)
			has(t, x, slices.Delete(atFirst(), i, i+1))
			sets(t, x, op(o.Name, kind, 0), api.OK)
			has(t, x, slices.Delete(atFirst(), i, i+1))
			sets(t, x, o, api.OK)
			has(t, x, atFirst())
		}
	}
}

// P12.2: Priority 0 takes out the one of that place, of whatever type; where there is none, there is none still.
func TestNoneAnyMore(t *testing.T) {
	x := ops.New()
	sets(t, x, op("-", api.FX, 0), api.OK)
	want := atFirst()
	has(t, x, slices.Delete(want, 3, 4))
	sets(t, x, op("-", api.XFX, 0), api.OK)
	has(t, x, without(atFirst(), "-"))
	sets(t, x, op("-", api.FY, 200), api.OK)
	sets(t, x, op("-", api.YFX, 500), api.OK)
	has(t, x, atFirst())
	for kind := api.XFX; kind <= api.FX; kind++ {
		sets(t, x, op("none", kind, 0), api.OK)
	}
	sets(t, x, op("is", api.FY, 0), api.OK)
	sets(t, x, op(`\+`, api.YFX, 0), api.OK)
	has(t, x, atFirst())
}

// P12.2: a table from which all is taken but the comma, which can't be.
func TestEmptied(t *testing.T) {
	x := ops.New()
	for _, o := range x.All() {
		o.Priority = 0
		x.Set(o)
	}
	has(t, x, []api.Op{op(",", api.XFY, 1000)})
	sets(t, x, op("a", api.FY, 1), api.OK)
	has(t, x, []api.Op{op(",", api.XFY, 1000), op("a", api.FY, 1)})
}

// full is a table of MaxOps operators, and what it has.
func full(t *testing.T) (*ops.Table, []api.Op) {
	x, want := ops.New(), atFirst()
	for i := 0; len(want) < api.MaxOps; i++ {
		o := op(fmt.Sprintf("z%03d", i), api.XFX, i+1)
		sets(t, x, o, api.OK)
		want = append(want, o)
	}
	has(t, x, want)
	return x, want
}

// P12.2: MaxOps operators, and one more.
func TestFull(t *testing.T) {
	x, want := full(t)
	for kind := api.XFX; kind <= api.FX; kind++ {
		sets(t, x, op("a", kind, 1), api.ErrFull)
		sets(t, x, op("zz", kind, 1200), api.ErrFull)
		sets(t, x, op("zz", kind, 0), api.OK)
	}
	sets(t, x, op("is", api.FX, 1), api.ErrFull)
	sets(t, x, op(`\+`, api.XFX, 1), api.ErrFull)
	has(t, x, want)
	for _, o := range []api.Op{op("", api.FX, 1), op(",", api.FX, 1), op("|", api.XFX, 1), op("[]", api.XFX, 1), op(strings.Repeat("x", 201), api.XFX, 1), op("a", 0, 1), op("a", 6, 1), op("a", api.FX, -1), op("a", api.FX, 1201)} {
		sets(t, x, o, api.ErrArg) // the sentence lists it first
	}
	has(t, x, want)
}

// P12.2: of a full table one may become another, and one comes in where one has gone.
func TestFullChanges(t *testing.T) {
	x, want := full(t)
	last := len(want) - 1
	want[0], want[3], want[last] = op("*", api.XFX, 9), op("-", api.FX, 8), op(want[last].Name, api.XFY, 7)
	for _, i := range []int{0, 3, last} {
		sets(t, x, want[i], api.OK)
	}
	has(t, x, want)
	sets(t, x, op("is", api.YFX, 0), api.OK)
	sets(t, x, op("a", api.FY, 5), api.OK)
	sets(t, x, op("is", api.XFX, 700), api.ErrFull)
	want = without(want, "is")
	i, _ := slices.BinarySearchFunc(want, "a", func(o api.Op, name string) int { return strings.Compare(o.Name, name) })
	want = slices.Insert(want, i, op("a", api.FY, 5))
	has(t, x, want)
	c := x.Copy()
	sets(t, c, op("b", api.FY, 5), api.ErrFull)
	has(t, c, want)
}

// P12.2: All's order is byte by byte, a beginning ahead of what goes on, in front ahead of between, in whatever order they come.
func TestAllsOrder(t *testing.T) {
	names := []string{"\x00", "\x00\x00", " ", "!", "A", "Aa", "_", "a", "a\x00", "a b", "aA", "aa", "ab", "b", "z", "{", "~", "\x7f", "\x80", "\xc3", "é", "éa", "\xff", "\xff\xff"}
	r := rand.New(rand.NewSource(1))
	for range 50 {
		x := ops.New()
		for _, o := range x.All() {
			o.Priority = 0
			x.Set(o)
		}
		var want []api.Op
		for i, name := range names {
			want = append(want, op(name, api.FY+i%2, i+1), op(name, api.XFX+i%3, 1200-i))
		}
		for _, i := range r.Perm(len(want)) {
			sets(t, x, want[i], api.OK)
		}
		i := slices.IndexFunc(want, func(o api.Op) bool { return o.Name == "A" })
		has(t, x, slices.Insert(want, i, op(",", api.XFY, 1000)))
	}
}

// P12.2: neither a table nor its copy is changed by the other's calls.
func TestCopy(t *testing.T) {
	x := ops.New()
	sets(t, x, op("a", api.FY, 5), api.OK)
	want := slices.Insert(atFirst(), 27, op("a", api.FY, 5))
	c := x.Copy()
	has(t, c, want)
	sets(t, x, op("is", api.XFX, 0), api.OK)
	sets(t, x, op("*", api.XFX, 3), api.OK)
	sets(t, x, op("zz", api.XFX, 3), api.OK)
	has(t, c, want)
	ofX := x.All()
	sets(t, c, op("+", api.XFX, 0), api.OK)
	sets(t, c, op("-", api.FX, 3), api.OK)
	sets(t, c, op("zz", api.FX, 4), api.OK)
	has(t, x, ofX)
	d := c.Copy().Copy()
	has(t, d, c.All())
	e, f := x.Copy(), x.Copy()
	sets(t, e, op("zzz", api.FX, 4), api.OK)
	sets(t, f, op("zzy", api.FX, 4), api.OK)
	has(t, e, append(slices.Clone(ofX), op("zzz", api.FX, 4)))
	has(t, f, append(slices.Clone(ofX), op("zzy", api.FX, 4)))
	has(t, x, ofX)
}

// R2: All's answer is its caller's own.
func TestAllsMemory(t *testing.T) {
	x := ops.New()
	a, b := x.All(), x.All()
	for i := range a {
		a[i] = op("changed", api.FX, 1)
	}
	has(t, x, atFirst())
	if !slices.Equal(b, atFirst()) {
		t.Error(b)
	}
	b = b[:cap(b)]
	for i := range b {
		b[i] = op("changed", api.FX, 1)
	}
	c := x.All()
	sets(t, x, op("!", api.FX, 1), api.OK)
	sets(t, x, op("*", api.XFX, 1), api.OK)
	if !slices.Equal(c, atFirst()) {
		t.Error(c)
	}
}

// R3: a nil table, and one that New did not make.
func TestNil(t *testing.T) {
	var none *ops.Table
	for _, o := range []api.Op{{}, op("a", api.FX, 1), op("a", api.FX, 0), op("is", api.XFX, 700), op(",", api.XFY, 1000)} {
		sets(t, none, o, api.ErrArg)
	}
	for _, name := range []string{"", "-", "is"} {
		asks(t, none, nil, name)
	}
	if l := none.All(); l != nil {
		t.Error(l)
	}
	if c := none.Copy(); c != nil {
		t.Error(c)
	}
	x := &ops.Table{}
	has(t, x, nil)
	has(t, x.Copy(), nil)
	sets(t, x, op("a", api.FX, 0), api.OK)
	has(t, x, nil)
	sets(t, x, op("a", api.FX, 1), api.OK)
	has(t, x, []api.Op{op("a", api.FX, 1)})
}

// P12.3: long rows of calls, held against a list that is searched from its beginning: other operators stay as they are.
func TestOthersStay(t *testing.T) {
	r := rand.New(rand.NewSource(12))
	names := []string{"", ",", "|", "[]", "is", "-", "+", `\+`, "i", "isn", "a", "ab", "\xff", "=", strings.Repeat("x", 201)}
	for i := range 90 {
		names = append(names, fmt.Sprintf("n%d", i))
	}
	for range 20 {
		x, want := ops.New(), atFirst()
		for range 400 {
			o := op(names[r.Intn(len(names))], r.Intn(7), r.Intn(1300)-50)
			if r.Intn(4) == 0 {
				o.Priority = 0
			}
			e := plainSet(&want, o)
			sets(t, x, o, e)
			if l := x.All(); !slices.Equal(l, want) {
				t.Fatalf("Set(%v): %v; want %v", o, l, want)
			}
			asks(t, x, want, o.Name)
		}
		has(t, x, want)
	}
}

// plainSet does to a list what Set does to a table.
func plainSet(l *[]api.Op, o api.Op) api.Errno {
	if o.Type < 1 || o.Type > 5 || o.Priority < 0 || o.Priority > 1200 || slices.Contains([]string{"", ",", "|", "[]"}, o.Name) || len(o.Name) > 200 {
		return api.ErrArg
	}
	rest := slices.DeleteFunc(slices.Clone(*l), func(a api.Op) bool { return a.Name == o.Name && isFront(a.Type) == isFront(o.Type) })
	if o.Priority > 0 {
		if len(rest) == 100 {
			return api.ErrFull
		}
		rest = append(rest, o)
	}
	slices.SortFunc(rest, func(a, b api.Op) int {
		if a.Name == b.Name {
			return (b.Type / api.FY) - (a.Type / api.FY)
		}
		return strings.Compare(a.Name, b.Name)
	})
	*l = rest
	return api.OK
}
