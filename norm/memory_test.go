package norm_test

import (
	"reflect"
	"testing"

	"elenchus/api"
	"elenchus/norm"
)

// lists is where the lists of l, l itself among them, begin; those that are empty are left out.
func lists(l []api.Term, seen map[*api.Term]int) {
	if len(l) == 0 {
		return
	}
	seen[&l[0]]++
	for _, x := range l {
		lists(x.Args, seen)
	}
}

// apart: no list of told is one of given, or told twice.
func apart(t *testing.T, call string, given, told []api.Term) {
	t.Helper()
	was, is := map[*api.Term]int{}, map[*api.Term]int{}
	lists(given, was)
	lists(told, is)
	for at, n := range is {
		if n > 1 || was[at] > 0 {
			t.Errorf("%s shares a list: %v, %d times", call, *at, n)
		}
	}
}

// R2: what is told is new memory, though one part stands in many places of what is handed in; that stays as it is.
func TestMemory(t *testing.T) {
	make2 := func() (api.Term, []api.Term) {
		part := comp("f", v(7), comp("g", v(3)))
		steer := comp(";", part, part)
		row := append(make([]api.Term, 0, 9), part, v(3), steer, part, v(3))
		return rule(part, and(and(toLeft(row), v(7)), toRight(row))), row
	}
	whole, row := make2()
	wasWhole, wasRow := make2()
	behind := row[:cap(row)]
	given := []api.Term{whole, and(row[0], row[0])}
	c, e := norm.Clauses(whole)
	if e != api.OK {
		t.Fatal(e)
	}
	apart(t, "Clauses", append(given, row...), append(c.Body, c.Head))
	apart(t, "Goals", append(given, row...), norm.Goals(whole.Args[1]))
	apart(t, "Goals of one", append(given, row...), norm.Goals(whole))
	apart(t, "Join", append(given, row...), []api.Term{norm.Join(row)})
	apart(t, "Join of one", append(given, row...), []api.Term{norm.Join(row[:1])})
	apart(t, "Back", append(given, append(c.Body, c.Head)...), []api.Term{norm.Back(c)})
	apart(t, "Back of a fact", append(given, row...), []api.Term{norm.Back(norm.Clause{Head: row[0]})})
	apart(t, "Back of one goal", append(given, row...), []api.Term{norm.Back(norm.Clause{Head: row[0], Body: row[:1]})})
	if !reflect.DeepEqual(whole, wasWhole) || !reflect.DeepEqual(row, wasRow) {
		t.Error("what is handed in is changed")
	}
	for _, x := range behind[len(row):] {
		if !nothing(x) {
			t.Error("what lies behind a list's length is written:", x)
		}
	}
	body := append([]api.Term{}, c.Body...)
	for i := range c.Body { // whatever is done to what was told
		c.Body[i] = api.Term{}
	}
	if again, e := norm.Clauses(whole); e != api.OK || !reflect.DeepEqual(again.Body, body) {
		t.Error("an answer is kept", again, e)
	}
}
