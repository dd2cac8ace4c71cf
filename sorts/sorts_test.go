package sorts_test

import (
	"fmt"
	"math"
	"slices"
	"strings"
	"testing"

	"theodolite/api"
	"theodolite/sorts"
)

const words = "true false not and or => xor = distinct ite let + - * / <= < >= > Bool Real _ ! as exists forall par"

// wrong are the names that nothing may have.
func wrong() []string {
	return append(strings.Fields(words), "", strings.Repeat("n", 201), strings.Repeat("é", 101), strings.Repeat("€", 67), strings.Repeat("n", 70000))
}

// strange are names that are not everyday's, but may be.
func strange() []string {
	return []string{"n", "a b", " ", "\x00", "\xff", "|", "True", "bool", "let ", " let", "par2", "==", "match", "Int", "é", strings.Repeat("n", 199), strings.Repeat("n", 200), strings.Repeat("é", 100), strings.Repeat("€", 66) + "ab"}
}

func wantSort(t *testing.T, x *sorts.Table, name string, want int, wantErr api.Errno) {
	t.Helper()
	if got, e := x.Sort(name); got != want || e != wantErr {
		t.Errorf("Sort(%.20q): %d, %d; want %d, %d", name, got, e, want, wantErr)
	}
}

func wantFun(t *testing.T, x *sorts.Table, f api.Fun, want api.Errno) {
	t.Helper()
	if got := x.Fun(f); got != want {
		t.Errorf("Fun(%.20q, %d args, %d): %d; want %d", f.Name, len(f.Args), f.Result, got, want)
	}
}

func wantPop(t *testing.T, x *sorts.Table, n int, want api.Errno, levels int) {
	t.Helper()
	if got := x.Pop(n); got != want || x.Levels() != levels {
		t.Errorf("Pop(%d): %d, levels %d; want %d, %d", n, got, x.Levels(), want, levels)
	}
}

func wantFound(t *testing.T, x *sorts.Table, name string, want int, there bool) {
	t.Helper()
	if got, ok := x.FindSort(name); got != want || ok != there {
		t.Errorf("FindSort(%.20q): %d, %v; want %d, %v", name, got, ok, want, there)
	}
}

func wantName(t *testing.T, x *sorts.Table, sort int, want string, there bool) {
	t.Helper()
	if got, ok := x.Name(sort); got != want || ok != there {
		t.Errorf("Name(%d): %q, %v; want %q, %v", sort, got, ok, want, there)
	}
}

// fun is a function of args to a number.
func fun(name string, args ...int) api.Fun {
	return api.Fun{Name: name, Args: args, Result: api.Real}
}

// names are those of Funs, as they stand there.
func names(x *sorts.Table) string {
	var all []string
	for _, f := range x.Funs() {
		all = append(all, f.Name)
	}
	return strings.Join(all, " ")
}

// all is what a table tells of all that it has.
func all(x *sorts.Table) string {
	said := fmt.Sprint(x.Levels(), x.Funs())
	for k := -1; ; k++ {
		name, ok := x.Name(k)
		if !ok && k >= 0 {
			return said
		}
		said += fmt.Sprint(" ", k, name)
	}
}

func TestReserved(t *testing.T) {
	for _, w := range strings.Fields(words) {
		if !sorts.Reserved(w) {
			t.Errorf("P6.1: %s is not Reserved", w)
		}
		for _, near := range []string{w + " ", " " + w, w + "\x00", w + w, "|" + w + "|"} {
			if sorts.Reserved(near) {
				t.Errorf("P6.1: %q is Reserved", near)
			}
		}
	}
	for _, w := range strange() {
		if sorts.Reserved(w) {
			t.Errorf("P6.1: %q is Reserved", w)
		}
	}
	for _, w := range []string{"", "TRUE", "real", "tru", "!=", "assert", "Array", "div"} {
		if sorts.Reserved(w) {
			t.Errorf("P6.1: %q is Reserved", w)
		}
	}
}

func TestSortNames(t *testing.T) {
	x := sorts.New()
	for _, name := range wrong() {
		wantSort(t, x, name, 0, api.ErrArg)
	}
	for k, name := range strange() {
		wantSort(t, x, name, k+2, api.OK)
		wantSort(t, x, name, 0, api.ErrArg)
		wantFound(t, x, name, k+2, true)
		wantName(t, x, k+2, name, true)
	}
	for _, name := range wrong() {
		if name != "Bool" && name != "Real" {
			wantFound(t, x, name, 0, false)
		}
	}
}

func TestGivenSorts(t *testing.T) {
	x := sorts.New()
	for range 2 {
		wantFound(t, x, "Bool", api.Bool, true)
		wantFound(t, x, "Real", api.Real, true)
		wantName(t, x, api.Bool, "Bool", true)
		wantName(t, x, api.Real, "Real", true)
		wantName(t, x, 3, "", false)
		wantName(t, x, -1, "", false)
		wantName(t, x, math.MaxInt, "", false)
		wantName(t, x, math.MinInt, "", false)
		wantFound(t, x, "bool", 0, false)
		x.Sort("A")
	}
	wantName(t, x, 2, "A", true)
}

func TestSortNumbersAgain(t *testing.T) {
	x := sorts.New()
	wantSort(t, x, "A", 2, api.OK)
	x.Push()
	wantSort(t, x, "B", 3, api.OK)
	wantSort(t, x, "A", 0, api.ErrArg)
	x.Push()
	wantSort(t, x, "C", 4, api.OK)
	wantSort(t, x, "B", 0, api.ErrArg)
	wantPop(t, x, 2, api.OK, 0)
	wantFound(t, x, "B", 0, false)
	wantFound(t, x, "C", 0, false)
	wantName(t, x, 3, "", false)
	wantSort(t, x, "C", 3, api.OK)
	wantSort(t, x, "B", 4, api.OK)
	wantFound(t, x, "C", 3, true)
	wantName(t, x, 4, "B", true)
}

func TestFunNames(t *testing.T) {
	x := sorts.New()
	x.Sort("both")
	for _, name := range wrong() {
		wantFun(t, x, fun(name), api.ErrArg)
	}
	for _, name := range append(strange(), "both") {
		wantFun(t, x, fun(name), api.OK)
		wantFun(t, x, fun(name), api.ErrArg)
		wantFun(t, x, fun(name, 1), api.ErrArg)
	}
	x.Push()
	wantFun(t, x, fun("both", 1, 1), api.ErrArg)
	wantSort(t, x, "n", 3, api.OK)
	for _, name := range append(wrong(), "none", "both ") {
		if f, ok := x.Find(name); ok || fmt.Sprint(f) != fmt.Sprint(api.Fun{}) {
			t.Errorf("P6.2: Find(%.20q): %v, %v", name, f, ok)
		}
	}
}

func TestFunTypes(t *testing.T) {
	x := sorts.New()
	x.Sort("A")
	x.Push()
	x.Sort("B")
	many := slices.Repeat([]int{1, 2, 3}, 22)
	for k, c := range []struct {
		args   []int
		result int
		want   api.Errno
	}{
		{nil, 0, api.OK}, {nil, 1, api.OK}, {nil, 2, api.OK}, {nil, 3, api.OK},
		{nil, 4, api.ErrArg}, {nil, -1, api.ErrArg}, {nil, math.MaxInt, api.ErrArg}, {nil, math.MinInt, api.ErrArg},
		{[]int{}, 1, api.OK}, {[]int{1, 2, 3}, 0, api.OK}, {[]int{3}, 3, api.OK},
		{[]int{0}, 1, api.ErrArg}, {[]int{1, 2, 0}, 1, api.ErrArg}, {[]int{4}, 1, api.ErrArg},
		{[]int{-1, 1}, 1, api.ErrArg}, {[]int{1, math.MaxInt}, 1, api.ErrArg}, {[]int{1, math.MinInt}, 1, api.ErrArg},
		{many[:64], 0, api.OK}, {many[:65], 0, api.ErrArg}, {many, 0, api.ErrArg},
	} {
		f := api.Fun{Name: fmt.Sprint("f", k), Args: c.args, Result: c.result}
		wantFun(t, x, f, c.want)
		got, ok := x.Find(f.Name)
		if ok != (c.want == api.OK) || ok && fmt.Sprint(got) != fmt.Sprint(f) {
			t.Errorf("P6.2: Find after Fun(%v): %v, %v", f, got, ok)
		}
	}
	wantPop(t, x, 1, api.OK, 0)
	wantFun(t, x, fun("g", 3), api.ErrArg)
	wantFun(t, x, api.Fun{Name: "g", Result: 3}, api.ErrArg)
	wantFun(t, x, fun("g", 2), api.OK)
}

func TestFunsAreFew(t *testing.T) {
	x := sorts.New()
	for k := range 1001 {
		wantSort(t, x, fmt.Sprint("S", k), k+2, api.OK)
	}
	for k := range 999 {
		wantFun(t, x, fun(fmt.Sprint("f", k)), api.OK)
	}
	x.Push()
	wantFun(t, x, fun("last"), api.OK)
	before := all(x)
	wantFun(t, x, fun("more"), api.ErrBig)
	wantFun(t, x, fun("last"), api.ErrArg)
	wantFun(t, x, fun("let"), api.ErrArg)
	wantFun(t, x, fun("more", 0), api.ErrArg)
	wantFun(t, x, fun("more", slices.Repeat([]int{1}, 65)...), api.ErrArg)
	wantFun(t, x, api.Fun{Name: "more", Result: 1003}, api.ErrArg)
	if all(x) != before {
		t.Error("P6.1: an error has changed the table")
	}
	if _, ok := x.Find("more"); ok {
		t.Error("P6.1: one function too many is there")
	}
	wantSort(t, x, "one more", 1003, api.OK)
	wantPop(t, x, 1, api.OK, 0)
	wantFun(t, x, fun("more"), api.OK)
	wantFun(t, x, fun("last"), api.ErrBig)
}

func TestLevels(t *testing.T) {
	x := sorts.New()
	wantPop(t, x, 0, api.OK, 0)
	wantPop(t, x, 1, api.ErrNone, 0)
	wantPop(t, x, math.MaxInt, api.ErrNone, 0)
	wantPop(t, x, -1, api.ErrArg, 0)
	x.Sort("A")
	x.Fun(fun("a", 2))
	for k := range 3 {
		x.Push()
		x.Sort(fmt.Sprint("A", k))
		x.Fun(fun(fmt.Sprint("a", k), k+3))
	}
	before := all(x)
	wantPop(t, x, 4, api.ErrNone, 3)
	wantPop(t, x, math.MaxInt, api.ErrNone, 3)
	wantPop(t, x, math.MinInt, api.ErrArg, 3)
	wantPop(t, x, -1, api.ErrArg, 3)
	wantPop(t, x, 0, api.OK, 3)
	if all(x) != before {
		t.Errorf("P6.2: a Pop of nothing has changed %s to %s", before, all(x))
	}
	wantPop(t, x, 2, api.OK, 1)
	wantFound(t, x, "A0", 3, true)
	wantFound(t, x, "A1", 0, false)
	if names(x) != "a a0" {
		t.Errorf("P6.2: functions %s", names(x))
	}
	wantPop(t, x, 1, api.OK, 0)
	wantFound(t, x, "A", 2, true)
	if names(x) != "a" {
		t.Errorf("P6.2: functions %s", names(x))
	}
	for range 100000 {
		x.Push()
	}
	wantPop(t, x, 99999, api.OK, 1)
	wantPop(t, x, 2, api.ErrNone, 1)
}

func TestExample(t *testing.T) {
	x := sorts.New()
	x.Push()
	wantFun(t, x, fun("f"), api.OK)
	wantPop(t, x, 1, api.OK, 0)
	if f, ok := x.Find("f"); ok {
		t.Errorf("P6.2: %v is there still", f)
	}
}

func TestFunsByName(t *testing.T) {
	x := sorts.New()
	if len(x.Funs()) != 0 {
		t.Error("P6.2: functions of a new table")
	}
	for _, name := range []string{"b", "a", "é", "B", "aa", "a0", "~", "\xff", "0", "|", "a b"} {
		wantFun(t, x, fun(name), api.OK)
	}
	if got, want := names(x), "0 B a a b a0 aa b | ~ é \xff"; got != want {
		t.Errorf("P6.2: %q, want %q", got, want)
	}
}
