package model_test

import (
	"fmt"
	"math"
	"math/big"
	"slices"
	"strings"
	"testing"

	"theodolite/api"
	"theodolite/model"
	"theodolite/rat"
	"theodolite/sorts"
	"theodolite/term"
)

// r is a fraction.
func r(s string) api.Rat {
	a, e := rat.Parse(s)
	if e != api.OK {
		panic(s)
	}
	return a
}

func num(s string) api.Value   { return api.Value{Sort: api.Real, Num: r(s)} }
func truth(b bool) api.Value   { return api.Value{Bool: b} }
func el(sort, n int) api.Value { return api.Value{Sort: sort, El: n} }

// list is values.
func list(l ...api.Value) []api.Value { return l }

// number is a fraction by what its fields hold: nil and an empty list are the
// same.
func number(a api.Rat) string {
	if rat.Valid(a) {
		return rat.Text(a)
	}
	return fmt.Sprintf("(%v %v %v)", a.Neg, a.Num, a.Den)
}

// text is a value by what its fields hold.
func text(v api.Value) string {
	return fmt.Sprintf("%d %v %s %d", v.Sort, v.Bool, number(v.Num), v.El)
}

func texts(l []api.Value) string {
	s := ""
	for _, v := range l {
		s += text(v) + "; "
	}
	return s
}

// tableText is a table by what its fields hold.
func tableText(tb api.Table) string {
	s := fmt.Sprintf("%q:", tb.Name)
	for _, row := range tb.Rows {
		s += " [" + texts(row.Args) + "is " + text(row.Value) + "]"
	}
	return s + " else " + text(tb.Else)
}

func modelText(m api.Model) string {
	s := ""
	for _, tb := range m.Tables {
		s += tableText(tb) + "\n"
	}
	return s
}

// with is a value whose other fields are filled, too.
func with(v api.Value) api.Value {
	if v.Sort != api.Bool {
		v.Bool = true
	}
	if v.Sort != api.Real {
		v.Num = r("-7/3")
	}
	if v.Sort < 0 || v.Sort > api.Real {
		return v
	}
	v.El = 9
	return v
}

// told is a value by what its sort says of it.
func told(v api.Value) string {
	switch v.Sort {
	case api.Bool:
		return fmt.Sprint("a truth ", v.Bool)
	case api.Real:
		return "the number " + number(v.Num)
	}
	return fmt.Sprint("element ", v.El, " of ", v.Sort)
}

// values are some of each sort, and some that no term is.
func values() []api.Value {
	most := new(big.Int).Sub(new(big.Int).Lsh(big.NewInt(1), 64*api.MaxLimbs), big.NewInt(1)).String()
	l := list(truth(false), truth(true))
	for _, s := range []string{"0", "1", "-1", "1/2", "-1/2", "2", "1/3", "18446744073709551616", "1/18446744073709551616", "18446744073709551617", most, "-" + most, "1/" + most} {
		l = append(l, num(s))
	}
	for _, sort := range []int{2, 3, 7, math.MaxInt, -1, math.MinInt} {
		for _, n := range []int{0, 1, 5, -1, math.MaxInt, math.MinInt} {
			l = append(l, el(sort, n))
		}
	}
	one := []uint64{1}
	for _, bad := range []api.Rat{{}, {Num: one}, {Neg: true, Den: one}, {Num: one, Den: []uint64{0}}, {Num: []uint64{2}, Den: []uint64{2}}, {Num: []uint64{1, 0}, Den: one}} {
		l = append(l, api.Value{Sort: api.Real, Num: bad})
	}
	return l
}

func TestSame(t *testing.T) {
	all := values()
	for k, a := range all {
		for o, b := range all {
			for _, p := range [][2]api.Value{{a, b}, {with(a), b}, {a, with(b)}, {with(a), with(b)}} {
				if got, want := model.Same(p[0], p[1]), k == o; got != want || got != (told(a) == told(b)) {
					t.Errorf("P10.1: %s and %s: %v", text(p[0]), text(p[1]), got)
				}
			}
		}
	}
	empty := api.Value{Sort: api.Real, Num: api.Rat{Num: []uint64{}, Den: []uint64{1}}}
	if !model.Same(empty, num("0")) || !model.Same(num("0"), empty) {
		t.Error("P10.1: 0 with an empty list is not 0 with nil")
	}
}

func TestZero(t *testing.T) {
	for sort, want := range map[int]api.Value{0: truth(false), 1: num("0"), 2: el(2, 0), 3: el(3, 0), 1000: el(1000, 0), -1: el(-1, 0)} {
		if got := model.Zero(sort); text(got) != text(want) {
			t.Errorf("P10.1: Zero(%d): %s", sort, text(got))
		}
	}
	if !rat.Valid(model.Zero(1).Num) {
		t.Error("rule 2: the Zero of Real is no number")
	}
}

// some is a model: with two tables of one name, and with one that fits nothing.
func some() api.Model {
	return api.Model{Tables: []api.Table{
		{Name: "a", Else: el(2, 4)},
		{Name: "f", Rows: []api.Row{
			{Args: list(num("1"), el(2, 3)), Value: num("10")},
			{Args: list(num("1"), el(2, 3)), Value: num("11")},
			{Args: list(num("1")), Value: num("12")},
			{Value: num("-13/7")},
			{Args: list(truth(true), num("-1/2"), el(2, 0)), Value: truth(true)},
			{Args: list(el(2, 3), num("1")), Value: num("15")},
		}, Else: num("14")},
		{Name: "a", Rows: []api.Row{{Value: el(2, 5)}}, Else: el(2, 6)},
		{Name: "", Else: truth(true)},
		{Name: "no number", Rows: []api.Row{{Args: list(api.Value{Sort: 1})}}, Else: api.Value{Sort: 1, Bool: true, El: 3}},
		{Name: "f"},
	}}
}

func TestFind(t *testing.T) {
	m := some()
	for name, k := range map[string]int{"a": 0, "f": 1, "": 3, "no number": 4} {
		if tb, ok := model.Find(m, name); !ok || tableText(tb) != tableText(m.Tables[k]) {
			t.Errorf("P10.1: Find(%q): %s, %v", name, tableText(tb), ok)
		}
	}
	for _, name := range []string{"A", "b", "fa", "no", " "} {
		if tb, ok := model.Find(m, name); ok || tableText(tb) != tableText(api.Table{}) {
			t.Errorf("P10.1: Find(%q): %s, %v", name, tableText(tb), ok)
		}
	}
	if tb, ok := model.Find(api.Model{}, ""); ok || tableText(tb) != tableText(api.Table{}) {
		t.Errorf("P10.1: Find in none: %s, %v", tableText(tb), ok)
	}
}

func TestApply(t *testing.T) {
	tb := some().Tables[1]
	for _, c := range []struct {
		args []api.Value
		want string
	}{
		{list(num("1"), el(2, 3)), "10"}, {list(with(num("1")), with(el(2, 3))), "10"}, {list(num("1")), "12"}, {nil, "-13/7"}, {list(), "-13/7"},
		{list(el(2, 3), num("1")), "15"}, {list(num("1"), el(2, 4)), "14"}, {list(num("1"), el(3, 3)), "14"}, {list(num("2"), el(2, 3)), "14"},
		{list(num("2")), "14"}, {list(num("-1")), "14"}, {list(el(2, 3)), "14"}, {list(num("1"), el(2, 3), el(2, 3)), "14"}, {list(truth(true), num("-1/2")), "14"},
	} {
		if got := model.Apply(tb, c.args); text(got) != text(num(c.want)) {
			t.Errorf("P10.1: at %s: %s; want %s", texts(c.args), text(got), c.want)
		}
	}
	if got := model.Apply(tb, list(truth(true), num("-1/2"), el(2, 0))); text(got) != text(truth(true)) {
		t.Errorf("P10.1: %s", text(got))
	}
	for _, v := range values() {
		if got := model.Apply(api.Table{Else: with(v)}, list(v)); text(got) != text(with(v)) {
			t.Errorf("P10.1: Else %s: %s", text(with(v)), text(got))
		}
		one := api.Table{Rows: []api.Row{{Args: list(v, v), Value: with(v)}}}
		if got := model.Apply(one, list(v, with(v))); text(got) != text(with(v)) {
			t.Errorf("P10.1: a row of %s: %s", text(with(v)), text(got))
		}
		if got := model.Apply(one, list(v)); text(got) != text(api.Value{}) {
			t.Errorf("P10.1: too few args: %s", text(got))
		}
	}
}

// bed is sorts and functions, and a table of terms.
func bed() (*sorts.Table, *term.Table) {
	s := sorts.New()
	s.Sort("A")
	s.Sort("B")
	for name, sort := range map[string]int{"p": 0, "q": 0, "x": 1, "y": 1, "z": 1, "a": 2, "b": 2, "c": 2, "d": 3} {
		s.Fun(api.Fun{Name: name, Result: sort})
	}
	s.Fun(api.Fun{Name: "f", Args: []int{1}, Result: 1})
	s.Fun(api.Fun{Name: "g", Args: []int{2, 1}, Result: 2})
	s.Fun(api.Fun{Name: "h", Args: []int{1, 3, 1}, Result: 0})
	return s, term.New(s)
}

func TestComplete(t *testing.T) {
	s, _ := bed()
	var names []string
	for _, f := range s.Funs() {
		names = append(names, f.Name)
	}
	if !slices.IsSorted(names) || len(names) != 12 {
		t.Fatalf("the functions are %v", names)
	}
	zeros := map[string]api.Value{"p": truth(false), "q": truth(false), "x": num("0"), "y": num("0"), "z": num("0"), "a": el(2, 0), "b": el(2, 0), "c": el(2, 0), "d": el(3, 0), "f": num("0"), "g": el(2, 0), "h": truth(false)}
	for _, m := range []api.Model{{}, some(), {Tables: []api.Table{{Name: "z", Else: num("1")}, {Name: "f"}, {Name: "z"}, {Name: "P"}}}, model.Complete(s, some())} {
		want := slices.Clone(m.Tables)
		for _, name := range names {
			if _, ok := model.Find(m, name); !ok {
				want = append(want, api.Table{Name: name, Else: zeros[name]})
			}
		}
		if got := model.Complete(s, m); modelText(got) != modelText(api.Model{Tables: want}) {
			t.Errorf("P10.2: Complete of\n%sis\n%s", modelText(m), modelText(got))
		}
	}
	for _, none := range []*sorts.Table{nil, sorts.New(), {}} {
		if got := model.Complete(none, some()); modelText(got) != modelText(some()) {
			t.Errorf("P10.2: without functions: %s", modelText(got))
		}
	}
	s.Push()
	s.Fun(api.Fun{Name: "e", Result: 3})
	if got := model.Complete(s, api.Model{}); len(got.Tables) != 13 || got.Tables[4].Name != "e" {
		t.Errorf("P10.2: a level more: %s", modelText(got))
	}
	s.Pop(1)
	if got := model.Complete(s, api.Model{}); strings.Contains(modelText(got), `"e"`) {
		t.Errorf("P10.2: a level less: %s", modelText(got))
	}
}
