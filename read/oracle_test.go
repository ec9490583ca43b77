package read_test

import (
	"math/rand"
	"reflect"
	"slices"
	"strings"
	"testing"

	"elenchus/api"
	"elenchus/ops"
	"elenchus/read"
	"elenchus/token"
)

// What waits for a term, and what for.
const (
	forWhole = iota
	forGroup
	forArguments
	forItems
	forTail
	forFront
	forRight
)

// waiting is what waits for a term of at most that priority. Each stands a level below the one that it was put upon.
type waiting struct {
	what, most int
	op         api.Op
	parts      []api.Term
}

// slow reads without calls into calls: it goes from token to token, and keeps what waits on a stack.
type slow struct {
	tokens []api.Token
	length int
	i      int
	ops    []api.Op
	stack  []waiting
	names  []string
	done   bool
	term   api.Term
	e      api.Errno
}

func (x *slow) see(behind int) api.Token {
	if x.i+behind >= len(x.tokens) {
		return api.Token{At: x.length}
	}
	return x.tokens[x.i+behind]
}

// op is the operator of that name, in front or between; one of priority 0, if there is none.
func (x *slow) op(name string, front bool) api.Op {
	for _, o := range x.ops {
		if o.Name == name && front == (o.Type == api.FY || o.Type == api.FX) {
			return o
		}
	}
	return api.Op{}
}

// clause reads one, and tells whether it could.
func (x *slow) clause() bool {
	x.names, x.done, x.e = nil, false, api.OK
	x.stack = []waiting{{what: forWhole, most: 1200}}
	begin := x.see(0).At
	for !x.done && x.e == api.OK {
		x.begin()
	}
	if x.e != api.OK {
		return false
	}
	if nodes, depth, args := size(x.term); nodes > 2000 || depth > 500 || args > 20 {
		x.e = api.ErrLong
		x.tokens, x.i = []api.Token{{At: begin}}, 0 // where the fault is
		return false
	}
	return true
}

func size(t api.Term) (nodes, depth, args int) {
	nodes, depth, args = 1, 0, len(t.Args)
	for _, a := range t.Args {
		n, d, w := size(a)
		nodes, depth, args = nodes+n, max(depth, d), max(args, w)
	}
	return nodes, depth + 1, args
}

func isPunct(t api.Token, s string) bool {
	return t.Kind == api.KPunct && t.Text == s
}

// wait puts one more upon the stack, behind so many tokens.
func (x *slow) wait(tokens, what, most int, o api.Op, parts ...api.Term) {
	if len(x.stack)-1 > 2000 {
		x.e = api.ErrLong
		return
	}
	x.i += tokens
	x.stack = append(x.stack, waiting{what, most, o, parts})
}

// have is a term of that priority, which ends behind so many tokens.
func (x *slow) have(tokens int, t api.Term, priority int) {
	if x.stack[len(x.stack)-1].most < priority {
		x.e = api.ErrForm
		return
	}
	if len(x.stack)-1 > 2000 {
		x.e = api.ErrLong
		return
	}
	x.i += tokens
	x.goOn(t, priority)
}

// begin goes on from where a term begins.
func (x *slow) begin() {
	t, next := x.see(0), x.see(1)
	ends := next.Kind == 0 || next.Kind == api.KEnd || isPunct(next, ",") || isPunct(next, ")") || isPunct(next, "]") || isPunct(next, "|")
	most := x.stack[len(x.stack)-1].most
	front, between := x.op(t.Text, true), x.op(t.Text, false)
	onlyBetween := next.Kind == api.KAtom && x.op(next.Text, false).Priority > 0 && x.op(next.Text, true).Priority == 0
	switch {
	case (t.Kind == api.KAtom || t.Kind == api.KQuote) && next.Kind == api.KOpen:
		x.wait(2, forArguments, 999, api.Op{Name: t.Text})
	case t.Kind == api.KAtom && t.Text == "-" && next.Kind == api.KInt && next.At-t.At == 1 && next.Int < 0:
		x.have(2, whole(next.Int), 0)
	case t.Kind == api.KAtom && t.Text == "-" && next.Kind == api.KInt && next.At-t.At == 1:
		x.have(2, whole(-next.Int), 0)
	case t.Kind == api.KAtom && front.Priority > 0 && front.Priority <= most && !ends && !onlyBetween && front.Type == api.FY:
		x.wait(1, forFront, front.Priority, front)
	case t.Kind == api.KAtom && front.Priority > 0 && front.Priority <= most && !ends && !onlyBetween:
		x.wait(1, forFront, front.Priority-1, front)
	case t.Kind == api.KAtom && !ends:
		x.have(1, atom(t.Text), max(front.Priority, between.Priority))
	case t.Kind == api.KAtom || t.Kind == api.KQuote:
		x.have(1, atom(t.Text), 0)
	case t.Kind == api.KVar:
		x.variable(t.Text)
	case t.Kind == api.KInt && t.Int >= 0:
		x.have(1, whole(t.Int), 0)
	case t.Kind == api.KCpx:
		x.have(1, cpx(t.Re, t.Im), 0)
	case t.Kind == api.KOpen || isPunct(t, "("):
		x.wait(1, forGroup, 1200, api.Op{})
	case isPunct(t, "[") && isPunct(next, "]"):
		x.have(2, atom("[]"), 0)
	case isPunct(t, "["):
		x.wait(1, forItems, 999, api.Op{})
	default:
		x.e = api.ErrForm
	}
}

func (x *slow) variable(name string) {
	n := slices.Index(x.names, name)
	if n < 0 || name == "_" {
		n = len(x.names)
		x.names = append(x.names, name)
	}
	x.have(1, variable(int64(n)), 0)
}

// goOn goes on from behind a term of that priority.
func (x *slow) goOn(t api.Term, priority int) {
	top := &x.stack[len(x.stack)-1]
	next := x.see(0)
	if next.Kind == api.KAtom || isPunct(next, ",") {
		o := x.op(next.Text, false)
		left, right := o.Priority-1, o.Priority-1
		switch o.Type {
		case api.XFY:
			right++
		case api.YFX:
			left++
		}
		if o.Priority > 0 && o.Priority <= top.most && priority <= left {
			x.i++
			x.stack = append(x.stack, waiting{forRight, right, o, []api.Term{t}})
			return
		}
	}
	parts := append(slices.Clone(top.parts), t)
	x.stack = x.stack[:len(x.stack)-1]
	switch what, name := top.what, top.op.Name; {
	case what == forWhole && next.Kind == api.KEnd:
		x.i, x.term, x.done = x.i+1, t, true
	case what == forGroup && isPunct(next, ")"):
		x.i++
		x.goOn(t, 0)
	case what == forArguments && isPunct(next, ")"):
		x.i++
		x.goOn(comp(name, parts...), 0)
	case (what == forArguments || what == forItems) && isPunct(next, ","):
		x.i++
		x.stack = append(x.stack, waiting{what, 999, top.op, parts})
	case what == forItems && isPunct(next, "|"):
		x.i++
		x.stack = append(x.stack, waiting{forTail, 999, top.op, parts})
	case what == forItems && isPunct(next, "]"):
		x.i++
		x.goOn(listOf(parts, atom("[]")), 0)
	case what == forTail && isPunct(next, "]"):
		x.i++
		x.goOn(listOf(parts[:len(parts)-1], t), 0)
	case what == forFront || what == forRight:
		x.goOn(comp(name, parts...), top.op.Priority)
	default:
		x.e = api.ErrForm
	}
}

func listOf(l []api.Term, tail api.Term) api.Term {
	if len(l) == 0 {
		return tail
	}
	return pair(l[0], listOf(l[1:], tail))
}

// slowAll is read.All.
func slowAll(s string, l []api.Op) ([]read.Clause, int, api.Errno) {
	tokens, at, e := token.All(s)
	if e != api.OK {
		return nil, at, e
	}
	var all []read.Clause
	x := slow{tokens: tokens, length: len(s), ops: l}
	for x.i < len(tokens) {
		begin := x.see(0).At
		if !x.clause() {
			return nil, x.see(0).At, x.e
		}
		all = append(all, read.Clause{Term: x.term, Names: x.names, At: begin})
	}
	return all, 0, api.OK
}

// slowTerm is read.Term.
func slowTerm(s string, l []api.Op) (api.Term, []string, int, api.Errno) {
	tokens, at, e := token.All(s)
	if e != api.OK {
		return api.Term{}, nil, at, e
	}
	x := slow{tokens: tokens, length: len(s), ops: l}
	if !x.clause() {
		return api.Term{}, nil, x.see(0).At, x.e
	}
	if x.i < len(tokens) {
		return api.Term{}, nil, tokens[x.i-1].At + 1, api.ErrForm
	}
	return x.term, x.names, 0, api.OK
}

// agrees: s is to be read as it is read slowly.
func agrees(t *testing.T, s string, o *ops.Table) {
	t.Helper()
	l := o.All()
	x, names, at, e := read.Term(s, o)
	x2, names2, at2, e2 := slowTerm(s, l)
	if !reflect.DeepEqual(x, x2) || !slices.Equal(names, names2) || at != at2 || e != e2 {
		t.Fatalf("Term(%q) = %s, %q, %d, %d; want %s, %q, %d, %d; %v", s, plain(x), names, at, e, plain(x2), names2, at2, e2, l)
	}
	all, at, e := read.All(s, o)
	all2, at2, e2 := slowAll(s, l)
	if len(all) != len(all2) || at != at2 || e != e2 {
		t.Fatalf("All(%q) = %v, %d, %d; want %v, %d, %d; %v", s, all, at, e, all2, at2, e2, l)
	}
	for i, c := range all {
		if c.At != all2[i].At || !slices.Equal(c.Names, all2[i].Names) || !reflect.DeepEqual(c.Term, all2[i].Term) {
			t.Fatalf("All(%q) = %v; want %v; %v", s, all, all2, l)
		}
	}
}

// P13.1, P13.2: every short row of these pieces.
func TestEveryShortText(t *testing.T) {
	pieces := []string{"a ", "X ", "_ ", "1 ", "- ", "-", "= ", ":- ", `\+ `, "+ ", "(", ") ", "[", "] ", ", ", "| ", ". ", "f(", "'-'", "9223372036854775808 "}
	tables := []*ops.Table{ops.New(), nil, table(t, op("-", api.XFY, 999), op("=", api.FX, 999), op("+", api.FY, 1000), op("a", api.XFX, 998), op(`\+`, api.YFX, 1200))}
	for i, o := range tables {
		var row func(s string, more int)
		row = func(s string, more int) {
			agrees(t, s, o)
			agrees(t, s+" .", o)
			if more > 0 {
				for _, p := range pieces {
					row(s+p, more-1)
				}
			}
		}
		row("", 4-min(i, 1))
	}
}

// P13.1, P13.2: long rows of pieces, with operators of all kinds.
func TestManyTexts(t *testing.T) {
	r := rand.New(rand.NewSource(13))
	names := []string{"a", "b", "-", "+", "=", ":-", `\+`, ";", "!", "is"}
	pieces := []string{"a", "b", "-", "+", "=", ":-", `\+`, ";", "!", "is", "a ", "- ", "+ ", "= ", "; ", "X", "Y ", "_ ", "1", "2 ", "-1", "- 1", "(", "(", ")", ") ", "[", "]", ",", ",", "|", " .", ". ", "f(", "'b'", "'='(", "-(", " ", "%\n"}
	priorities := []int{1, 2, 199, 200, 201, 500, 998, 999, 1000, 1001, 1199, 1200}
	for range 3000 {
		o := &ops.Table{}
		if r.Intn(2) == 0 {
			o = ops.New()
		}
		for range r.Intn(12) {
			o.Set(op(names[r.Intn(len(names))], 1+r.Intn(5), priorities[r.Intn(len(priorities))]))
		}
		for range 30 {
			agrees(t, someText(r, pieces, names), o)
		}
	}
}

// someText is a row of pieces, or, so that more of it is a term, of operands and operators in turn.
func someText(r *rand.Rand, pieces, names []string) string {
	var b strings.Builder
	if r.Intn(2) == 0 {
		for range r.Intn(15) {
			b.WriteString(pieces[r.Intn(len(pieces))])
		}
		return b.String() + " ."
	}
	some := func(l ...string) string { return l[r.Intn(len(l))] }
	for range 1 + r.Intn(2) {
		closing := ""
		for range 1 + r.Intn(7) {
			b.WriteString(some("", "", "", some(names...)+" ", "- ", "-"))
			switch r.Intn(8) {
			case 0:
				b.WriteString("(")
				closing = ")" + closing
			case 1:
				b.WriteString("f(")
				closing = ")" + closing
			case 2:
				b.WriteString("[")
				closing = some("]", "|T]") + closing
			}
			b.WriteString(some("a", "X", "7", "'q'", "_", "[]", some(names...)))
			b.WriteString(some(" ", ",", " "+some(names...)+" ", " "+some(names...)+" "))
		}
		b.WriteString(some("z", "Z", "(z)", "3") + closing + " . ")
	}
	return b.String()
}
