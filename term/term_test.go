package term_test

import (
	"fmt"
	"math"
	"slices"
	"strings"
	"testing"

	"theodolite/api"
	"theodolite/rat"
	"theodolite/sorts"
	"theodolite/term"
)

// text is a node by what its fields hold: nil and an empty list are the same.
func text(n api.Node) string {
	return fmt.Sprintf("%d %q %v %v %v %v %d", n.Op, n.Name, n.Val.Neg, n.Val.Num, n.Val.Den, n.Args, n.Sort)
}

// all is what a table tells of all its terms.
func all(x *term.Table) string {
	var b strings.Builder
	for id := range x.Len() {
		n, _ := x.Node(id)
		fmt.Fprintln(&b, id, text(n), x.Vars(id))
	}
	return b.String()
}

// bed is two sorts and some functions.
func bed() *sorts.Table {
	s := sorts.New()
	s.Sort("A")
	s.Sort("B")
	for _, f := range []api.Fun{
		{Name: "x", Result: 1}, {Name: "y", Result: 1}, {Name: "p", Result: 0}, {Name: "q", Result: 0},
		{Name: "a", Result: 2}, {Name: "c", Result: 2}, {Name: "b", Result: 3},
		{Name: "f", Args: []int{1}, Result: 1}, {Name: "g", Args: []int{2, 1}, Result: 2},
		{Name: "h", Args: []int{1, 1, 3}, Result: 0}, {Name: "wide", Args: slices.Repeat([]int{1}, 64), Result: 3},
	} {
		if s.Fun(f) != api.OK {
			panic(f.Name)
		}
	}
	return s
}

// maker makes terms that may be.
type maker struct {
	t *testing.T
	x *term.Table
}

func start(t *testing.T) maker { return maker{t, term.New(bed())} }

func (m maker) sure(id int, e api.Errno) int {
	m.t.Helper()
	if e != api.OK {
		m.t.Fatalf("a term that may be: %d, %d", id, e)
	}
	return id
}

func (m maker) app(name string, args ...int) int {
	m.t.Helper()
	return m.sure(m.x.Make(api.App, name, api.Rat{}, args...))
}

func (m maker) op(op int, args ...int) int {
	m.t.Helper()
	return m.sure(m.x.Make(op, "", api.Rat{}, args...))
}

func (m maker) num(n, d int) int {
	m.t.Helper()
	return m.sure(m.x.Make(api.Num, "", rat.Of(n, d)))
}

// refused wants an error of Make, and that it changes nothing.
func (m maker) refused(want api.Errno, op int, name string, val api.Rat, args ...int) {
	m.t.Helper()
	before := m.x.Len()
	id, e := m.x.Make(op, name, val, args...)
	if id != 0 || e != want || m.x.Len() != before {
		m.t.Errorf("Make(%d, %.20q, %v, %v): %d, %d; want error %d (%d terms, now %d)", op, name, val, args, id, e, want, before, m.x.Len())
	}
}

// is wants a term to be one of such a node.
func (m maker) is(id int, want api.Node) {
	m.t.Helper()
	n, ok := m.x.Node(id)
	sort, there := m.x.Sort(id)
	if text(n) != text(want) || sort != want.Sort || !ok || !there {
		m.t.Errorf("term %d: %s, %v, sort %d, %v; want %s", id, text(n), ok, sort, there, text(want))
	}
}

// ops are all operators.
func ops() []int {
	var list []int
	for op := api.True; op <= api.Gt; op++ {
		list = append(list, op)
	}
	return list
}

func TestNoOperator(t *testing.T) {
	m := start(t)
	p := m.app("p")
	for _, op := range []int{0, -1, 21, 256 + api.True, 1<<32 + api.True, math.MaxInt, math.MinInt} {
		m.refused(api.ErrArg, op, "", api.Rat{})
		m.refused(api.ErrArg, op, "", api.Rat{}, p, p)
		m.refused(api.ErrArg, op, "p", api.Rat{})
	}
}

func TestNoID(t *testing.T) {
	m := start(t)
	x, p := m.app("x"), m.app("p")
	for _, op := range ops() {
		val := api.Rat{}
		if op == api.Num {
			val = rat.Of(1, 1)
		}
		for _, none := range []int{-1, m.x.Len(), m.x.Len() + 1, math.MaxInt, math.MinInt} {
			m.refused(api.ErrArg, op, "", val, none)
			m.refused(api.ErrArg, op, "", val, x, none)
			m.refused(api.ErrArg, op, "", val, none, p, p)
			m.refused(api.ErrArg, op, "", val, p, none, p)
			m.refused(api.ErrArg, op, "", val, p, x, x, p, p, none)
		}
	}
	m.refused(api.ErrArg, api.App, "f", api.Rat{}, 2)
	m.refused(api.ErrArg, api.App, "none", api.Rat{}, 2)
}

func TestTooManyArgs(t *testing.T) {
	m := start(t)
	x, p, two := m.app("x"), m.app("p"), m.num(2, 1)
	for _, c := range []struct{ op, arg int }{
		{api.And, p}, {api.Or, p}, {api.Imp, p}, {api.Xor, p}, {api.Eq, p}, {api.Eq, x}, {api.Unlike, x},
		{api.Add, x}, {api.Sub, x}, {api.Mul, two}, {api.Div, two}, {api.Le, x}, {api.Lt, x}, {api.Ge, x}, {api.Gt, x},
	} {
		m.op(c.op, slices.Repeat([]int{c.arg}, 64)...)
		m.refused(api.ErrArg, c.op, "", api.Rat{}, slices.Repeat([]int{c.arg}, 65)...)
	}
	m.app("wide", slices.Repeat([]int{x}, 64)...)
	m.refused(api.ErrSort, api.App, "wide", api.Rat{}, slices.Repeat([]int{x}, 63)...)
	m.refused(api.ErrArg, api.App, "wide", api.Rat{}, slices.Repeat([]int{x}, 65)...)
	m.refused(api.ErrArg, api.Not, "", api.Rat{}, slices.Repeat([]int{p}, 1000)...)
	m.refused(api.ErrArg, api.True, "", api.Rat{}, slices.Repeat([]int{p}, 65)...)
}

func TestNameOrValueOutOfPlace(t *testing.T) {
	m := start(t)
	p := m.app("p")
	for _, op := range ops() {
		if op != api.App {
			val := api.Rat{}
			if op == api.Num {
				val = rat.Of(1, 1)
			}
			m.refused(api.ErrArg, op, "p", val)
			m.refused(api.ErrArg, op, " ", val, p)
		}
		if op == api.Num {
			continue
		}
		for _, val := range []api.Rat{rat.Of(1, 1), rat.Of(0, 1), {Neg: true}, {Num: []uint64{1}}, {Num: []uint64{0}}, {Den: []uint64{0}}, {Den: []uint64{1}}} {
			m.refused(api.ErrArg, op, "", val)
			m.refused(api.ErrArg, op, "", val, p)
			m.refused(api.ErrArg, op, "", val, p, p)
		}
	}
	m.refused(api.ErrArg, api.App, "p", rat.Of(0, 1))
	m.refused(api.ErrArg, api.App, "p", api.Rat{Neg: true})
	// An empty list is no other than none.
	empty := api.Rat{Num: []uint64{}, Den: []uint64{}}
	if id := m.sure(m.x.Make(api.App, "p", empty, []int{}...)); id != p {
		t.Errorf("P7.1: p with empty lists is %d, not %d", id, p)
	}
}

func TestNumbersThatAreNotValid(t *testing.T) {
	m := start(t)
	long := slices.Repeat([]uint64{1}, 65)
	for _, val := range []api.Rat{
		{}, {Neg: true}, {Num: []uint64{1}}, {Num: []uint64{1}, Den: []uint64{0}}, {Neg: true, Den: []uint64{1}},
		{Num: []uint64{2}, Den: []uint64{4}}, {Den: []uint64{2}}, {Num: []uint64{0}, Den: []uint64{1}},
		{Num: []uint64{1, 0}, Den: []uint64{1}}, {Num: []uint64{1}, Den: []uint64{1, 0}},
		{Num: long, Den: []uint64{1}}, {Num: []uint64{1}, Den: long},
	} {
		m.refused(api.ErrArg, api.Num, "", val)
	}
	m.sure(m.x.Make(api.Num, "", api.Rat{Neg: true, Num: long[:64], Den: []uint64{1}}))
	m.sure(m.x.Make(api.Num, "", api.Rat{Num: []uint64{1}, Den: long[:64]}))
	m.is(0, api.Node{Op: api.Num, Val: api.Rat{Neg: true, Num: long[:64], Den: []uint64{1}}, Sort: api.Real})
	m.is(1, api.Node{Op: api.Num, Val: api.Rat{Num: []uint64{1}, Den: long[:64]}, Sort: api.Real})
}

func TestErrorsInOrder(t *testing.T) {
	m := start(t)
	x, p := m.app("x"), m.app("p")
	m.refused(api.ErrArg, api.Num, "", rat.Of(1, 1), 99)
	m.refused(api.ErrArg, api.Num, "", api.Rat{}, x)
	m.refused(api.ErrSort, api.Num, "", rat.Of(1, 1), x)
	m.refused(api.ErrArg, api.Not, "p", api.Rat{}, x)
	m.refused(api.ErrArg, api.App, "none", rat.Of(1, 1))
	for range api.MaxTerms - m.x.Len() {
		p = m.op(api.Not, p)
	}
	m.refused(api.ErrArg, api.Not, "", api.Rat{}, api.MaxTerms)
	m.refused(api.ErrArg, api.Num, "", api.Rat{})
	m.refused(api.ErrSort, api.Not, "", api.Rat{}, x)
	m.refused(api.ErrSort, api.App, "none", api.Rat{})
	m.refused(api.ErrBig, api.App, "y", api.Rat{})
	m.refused(api.ErrBig, api.Num, "", rat.Of(1, 1))
	m.refused(api.ErrBig, api.Not, "", api.Rat{}, p)
	if _, e := m.x.Fresh(-1); e != api.ErrArg {
		t.Errorf("P7.2: Fresh of no sort in a full table: %d", e)
	}
	if id, e := m.x.Fresh(1); id != 0 || e != api.ErrBig {
		t.Errorf("P7.2: Fresh in a full table: %d, %d", id, e)
	}
	if m.app("x") != x || m.op(api.Not, 1) != 2 || m.x.Len() != api.MaxTerms {
		t.Error("P7.1: a full table doesn't tell what it has")
	}
}

func TestSortsOfAll(t *testing.T) {
	m := start(t)
	x, p, a, b, two := m.app("x"), m.app("p"), m.app("a"), m.app("b"), m.num(2, 1)
	for _, c := range []struct {
		op   int
		args []int
		sort int
	}{
		{api.True, nil, 0}, {api.False, nil, 0}, {api.Not, []int{p}, 0}, {api.And, []int{p, p}, 0}, {api.Or, []int{p, p}, 0},
		{api.Imp, []int{p, p}, 0}, {api.Xor, []int{p, p, p}, 0}, {api.Eq, []int{p, p}, 0}, {api.Eq, []int{x, x}, 0}, {api.Eq, []int{a, a}, 0},
		{api.Unlike, []int{b, b, b}, 0}, {api.Unlike, []int{p, p}, 0}, {api.Ite, []int{p, p, p}, 0}, {api.Ite, []int{p, x, two}, 1},
		{api.Ite, []int{p, a, a}, 2}, {api.Ite, []int{p, b, b}, 3}, {api.Add, []int{x, two}, 1}, {api.Sub, []int{x}, 1},
		{api.Sub, []int{x, x, x}, 1}, {api.Mul, []int{two, x}, 1}, {api.Div, []int{x, two}, 1}, {api.Le, []int{x, x}, 0},
		{api.Lt, []int{x, two, x}, 0}, {api.Ge, []int{two, two}, 0}, {api.Gt, []int{x, x}, 0},
	} {
		id := m.op(c.op, c.args...)
		if id != m.x.Len()-1 {
			t.Errorf("P7.1: operator %d: id %d of %d", c.op, id, m.x.Len())
		}
		m.is(id, api.Node{Op: c.op, Args: c.args, Sort: c.sort})
	}
	m.is(x, api.Node{Op: api.App, Name: "x", Sort: 1})
	m.is(p, api.Node{Op: api.App, Name: "p", Sort: 0})
	m.is(m.app("g", a, x), api.Node{Op: api.App, Name: "g", Args: []int{a, x}, Sort: 2})
	m.is(m.app("h", x, two, b), api.Node{Op: api.App, Name: "h", Args: []int{x, two, b}, Sort: 0})
	m.is(two, api.Node{Op: api.Num, Val: api.Rat{Num: []uint64{2}, Den: []uint64{1}}, Sort: 1})
	m.is(m.num(0, 1), api.Node{Op: api.Num, Val: api.Rat{Den: []uint64{1}}, Sort: 1})
	m.is(m.num(-3, 6), api.Node{Op: api.Num, Val: api.Rat{Neg: true, Num: []uint64{1}, Den: []uint64{2}}, Sort: 1})
}

func TestExample(t *testing.T) {
	m := start(t)
	x := m.app("x")
	if i, j := m.op(api.Add, x, x), m.op(api.Add, x, x); i != j || m.x.Len() != 2 {
		t.Errorf("x + x twice: %d and %d", i, j)
	}
}

func TestFunctionsThatAreDeclaredNow(t *testing.T) {
	s := bed()
	m := maker{t, term.New(s)}
	x := m.app("x")
	m.refused(api.ErrSort, api.App, "late", api.Rat{}, x)
	s.Push()
	s.Fun(api.Fun{Name: "late", Args: []int{1}, Result: 0})
	first := m.app("late", x)
	s.Pop(1)
	m.refused(api.ErrSort, api.App, "late", api.Rat{}, x)
	m.is(first, api.Node{Op: api.App, Name: "late", Args: []int{x}, Sort: 0})
	s.Push()
	s.Fun(api.Fun{Name: "late", Args: []int{1}, Result: 3})
	second := m.app("late", x)
	m.is(second, api.Node{Op: api.App, Name: "late", Args: []int{x}, Sort: 3})
	s.Pop(1)
	s.Fun(api.Fun{Name: "late", Args: []int{1}, Result: 0})
	if third := m.app("late", x); third != first || second == first {
		t.Errorf("P7.1: late is %d, %d and %d", first, second, third)
	}
	m.refused(api.ErrSort, api.App, "", api.Rat{})
	m.refused(api.ErrSort, api.App, strings.Repeat("n", 70000), api.Rat{})
	m.refused(api.ErrSort, api.App, "+", api.Rat{}, x, x)
}

// TestSortsOfOneNumber: a sort that is gone gives its number to another one.
func TestSortsOfOneNumber(t *testing.T) {
	s := sorts.New()
	m := maker{t, term.New(s)}
	s.Push()
	s.Sort("A")
	s.Fun(api.Fun{Name: "a", Result: 2})
	a := m.app("a")
	s.Pop(1)
	m.refused(api.ErrSort, api.App, "a", api.Rat{})
	m.is(m.op(api.Eq, a, a), api.Node{Op: api.Eq, Args: []int{a, a}})
	if _, e := m.x.Fresh(2); e != api.ErrArg {
		t.Errorf("P7.2: Fresh of a sort that is gone: %d", e)
	}
	s.Sort("B")
	s.Fun(api.Fun{Name: "f", Args: []int{2}, Result: 2})
	m.is(m.app("f", a), api.Node{Op: api.App, Name: "f", Args: []int{a}, Sort: 2})
}

func TestNoTable(t *testing.T) {
	var x *term.Table
	m := maker{t, x}
	m.refused(api.ErrArg, api.True, "", api.Rat{})
	m.refused(api.ErrArg, api.Num, "", rat.Of(1, 1))
	m.refused(api.ErrArg, api.Not, "", api.Rat{})
	m.refused(api.ErrArg, api.Not, "", api.Rat{}, 0)
	for _, id := range []int{0, 1, -1, math.MaxInt, math.MinInt} {
		wantNothing(t, x, id)
		if got, e := x.Fresh(id); got != 0 || e != api.ErrArg {
			t.Errorf("P7.2: Fresh(%d): %d, %d", id, got, e)
		}
	}
	if x.Len() != 0 {
		t.Errorf("P7.2: Len %d", x.Len())
	}
}

// TestNoSorts: a nil Table of 6 has no sorts and no functions.
func TestNoSorts(t *testing.T) {
	for _, x := range []*term.Table{term.New(nil), new(term.Table)} {
		m := maker{t, x}
		m.refused(api.ErrSort, api.App, "x", api.Rat{})
		for sort := -1; sort < 3; sort++ {
			if got, e := x.Fresh(sort); got != 0 || e != api.ErrArg {
				t.Errorf("P7.2: Fresh(%d): %d, %d", sort, got, e)
			}
		}
		yes, half := m.op(api.True), m.num(1, 2)
		m.is(m.op(api.Ite, yes, half, half), api.Node{Op: api.Ite, Args: []int{0, 1, 1}, Sort: 1})
	}
}

// wantNothing wants what is told of no id.
func wantNothing(t *testing.T, x *term.Table, id int) {
	t.Helper()
	n, ok := x.Node(id)
	sort, there := x.Sort(id)
	if text(n) != text(api.Node{}) || ok || sort != 0 || there || len(x.Vars(id)) != 0 {
		t.Errorf("P7.2: of no id, %d: %s, %v; %d, %v; %v", id, text(n), ok, sort, there, x.Vars(id))
	}
}

func TestIDs(t *testing.T) {
	m := start(t)
	wantNothing(t, m.x, 0)
	if m.x.Len() != 0 {
		t.Errorf("P7.2: Len %d of a new table", m.x.Len())
	}
	for k := range 300 {
		if id := m.num(k, 7); id != k || m.x.Len() != k+1 {
			t.Fatalf("P7.1: id %d of term %d, Len %d", id, k, m.x.Len())
		}
		wantNothing(t, m.x, k+1)
	}
	for _, id := range []int{-1, 300, 1 << 14, 1 << 32, math.MaxInt, math.MinInt} {
		wantNothing(t, m.x, id)
	}
}
