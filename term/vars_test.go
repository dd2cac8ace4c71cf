package term_test

import (
	"fmt"
	"math"
	"strings"
	"testing"

	"theodolite/api"
	"theodolite/sorts"
	"theodolite/term"
)

func TestVars(t *testing.T) {
	m := start(t)
	y, x := m.app("y"), m.app("x")
	two, p, a := m.num(2, 1), m.app("p"), m.app("a")
	fx := m.app("f", x)
	fresh := m.sure(m.x.Fresh(1))
	for _, c := range []struct {
		id   int
		want []int
	}{
		{x, []int{x}}, {y, []int{y}}, {p, []int{p}}, {a, []int{a}}, {fresh, []int{fresh}}, {two, nil}, {fx, []int{x}},
		{m.op(api.True), nil}, {m.op(api.Add, two, two), nil}, {m.app("f", two), nil},
		{m.op(api.Add, fresh, x, y, x), []int{y, x, fresh}}, {m.op(api.Sub, fx, y), []int{y, x}}, {m.op(api.Sub, x, x), []int{x}},
		{m.op(api.Ite, p, m.app("g", a, fx), a), []int{x, p, a}},
		{m.op(api.Ite, m.op(api.Le, x, two), y, m.app("f", fx)), []int{y, x}},
	} {
		if got := m.x.Vars(c.id); fmt.Sprint(got) != fmt.Sprint(c.want) {
			t.Errorf("P7.2: Vars(%d): %v, want %v", c.id, got, c.want)
		}
	}
}

// TestVarsOfMuchShared: as a tree, the term would be of more than any bound.
func TestVarsOfMuchShared(t *testing.T) {
	m := start(t)
	x, y := m.app("x"), m.app("y")
	sum := m.op(api.Add, y, x)
	for range 10000 {
		sum = m.op(api.Add, sum, sum)
	}
	m.app("a")
	if got := fmt.Sprint(m.x.Vars(sum)); got != "[0 1]" {
		t.Errorf("P7.2: Vars: %s", got)
	}
}

func TestFresh(t *testing.T) {
	s := bed()
	m := maker{t, term.New(s)}
	m.app("x")
	for _, sort := range []int{-1, 4, 5, math.MaxInt, math.MinInt} {
		if id, e := m.x.Fresh(sort); id != 0 || e != api.ErrArg || m.x.Len() != 1 {
			t.Errorf("P7.2: Fresh(%d): %d, %d", sort, id, e)
		}
	}
	names := map[string]int{}
	for k := range 400 {
		id, e := m.x.Fresh(k % 4)
		if id != m.x.Len()-1 || e != api.OK {
			t.Fatalf("P7.2: Fresh: %d, %d, Len %d", id, e, m.x.Len())
		}
		n, _ := m.x.Node(id)
		m.is(id, api.Node{Op: api.App, Name: n.Name, Sort: k % 4})
		if digits, ok := strings.CutPrefix(n.Name, "|"); !ok || digits == "" || strings.Trim(digits, "0123456789") != "" {
			t.Errorf("P7.2: a name %q", n.Name)
		}
		if other, there := names[n.Name]; there {
			t.Errorf("P7.2: %d and %d are both %s", id, other, n.Name)
		}
		names[n.Name] = id
		if _, there := s.Find(n.Name); there {
			t.Errorf("P7.2: %s is declared", n.Name)
		}
		m.refused(api.ErrSort, api.App, n.Name, api.Rat{})
		if k%3 == 0 {
			m.num(k, 1)
		}
	}
}

// TestFreshOfASortThatComes: a sort may be declared behind the table's New.
func TestFreshOfASortThatComes(t *testing.T) {
	s := sorts.New()
	m := maker{t, term.New(s)}
	if _, e := m.x.Fresh(2); e != api.ErrArg {
		t.Errorf("P7.2: Fresh(2): %d", e)
	}
	s.Push()
	s.Sort("A")
	m.sure(m.x.Fresh(2))
	s.Pop(1)
	if _, e := m.x.Fresh(2); e != api.ErrArg {
		t.Errorf("P7.2: Fresh(2): %d", e)
	}
}

// TestFreshBesideSuchNames: functions of such names can be declared, though not
// by a script. A new constant is none of these, nor one that is gone.
func TestFreshBesideSuchNames(t *testing.T) {
	s := sorts.New()
	m := maker{t, term.New(s)}
	two := m.num(2, 1)
	s.Push()
	taken := map[string]bool{}
	for k := range 40 {
		f := api.Fun{Name: fmt.Sprint("|", k), Result: 1}
		if k%3 == 1 {
			f.Args = []int{1}
		}
		s.Fun(f)
		taken[f.Name] = true
		switch k % 3 {
		case 0:
			m.app(f.Name)
		case 1:
			m.app(f.Name, two)
		}
	}
	check := func() {
		t.Helper()
		before := m.x.Len()
		id := m.sure(m.x.Fresh(1))
		n, _ := m.x.Node(id)
		if id != before || taken[n.Name] {
			t.Errorf("P7.2: Fresh: %d of %d, %s", id, before, n.Name)
		}
		taken[n.Name] = true
	}
	check()
	check()
	s.Pop(1)
	for k := range 40 { // those that were not made are gone
		if k%3 == 2 {
			delete(taken, fmt.Sprint("|", k))
		}
	}
	for range 40 {
		check()
	}
}

// TestFreshAfterErrors: what is refused is not told by what comes behind it.
func TestFreshAfterErrors(t *testing.T) {
	m, o := start(t), start(t)
	for k := range 10 {
		m.x.Fresh(9)
		m.x.Fresh(-1)
		m.x.Make(api.App, "none", api.Rat{})
		m.x.Make(api.Not, "", api.Rat{}, 9999)
		m.sure(m.x.Fresh(k % 4))
		o.sure(o.x.Fresh(k % 4))
	}
	if all(m.x) != all(o.x) {
		t.Errorf("rule 5: %s\nand %s", all(m.x), all(o.x))
	}
}

// TestFreshDeclaredLater: a function that is declared with a new constant's
// name and sort comes to the same node, and so to the same id.
func TestFreshDeclaredLater(t *testing.T) {
	s := bed()
	m := maker{t, term.New(s)}
	id := m.sure(m.x.Fresh(2))
	n, _ := m.x.Node(id)
	s.Fun(api.Fun{Name: n.Name, Result: 2})
	if again := m.app(n.Name); again != id {
		t.Errorf("P7.3: %d and %d are of one node", id, again)
	}
}
