package model_test

import (
	"fmt"
	"math"
	"math/big"
	"math/rand"
	"testing"

	"theodolite/api"
	"theodolite/model"
	"theodolite/rat"
	"theodolite/term"
)

// maker makes terms that may be, and wants values of them.
type maker struct {
	t *testing.T
	x *term.Table
	m api.Model
}

func start(t *testing.T, tables ...api.Table) maker {
	_, x := bed()
	return maker{t, x, api.Model{Tables: tables}}
}

func (k maker) app(name string, args ...int) int {
	k.t.Helper()
	return k.made(k.x.Make(api.App, name, api.Rat{}, args...))
}

func (k maker) op(op int, args ...int) int {
	k.t.Helper()
	return k.made(k.x.Make(op, "", api.Rat{}, args...))
}

func (k maker) num(s string) int {
	k.t.Helper()
	return k.made(k.x.Make(api.Num, "", r(s)))
}

func (k maker) made(id int, e api.Errno) int {
	k.t.Helper()
	if e != api.OK {
		k.t.Fatalf("no term: %d", e)
	}
	return id
}

// is wants what a term is.
func (k maker) is(id int, want api.Value) {
	k.t.Helper()
	if v, e := model.Eval(k.x, k.m, id); e != api.OK || text(v) != text(want) {
		n, _ := k.x.Node(id)
		k.t.Errorf("P10.2: %v is %s, %d; want %s", n, text(v), e, text(want))
	}
}

// not wants an error, and nothing beside it.
func (k maker) not(id int, want api.Errno) {
	k.t.Helper()
	if v, e := model.Eval(k.x, k.m, id); e != want || text(v) != text(api.Value{}) {
		k.t.Errorf("P10.2: %d is %s, %d; want %d", id, text(v), e, want)
	}
}

func TestNoTerm(t *testing.T) {
	k := start(t, api.Table{Name: "x", Else: num("2")})
	k.not(0, api.ErrArg)
	x := k.app("x")
	k.is(x, num("2"))
	for _, id := range []int{1, -1, 99, math.MaxInt, math.MinInt} {
		k.not(id, api.ErrArg)
	}
	for _, none := range []*term.Table{nil, {}, term.New(nil)} {
		if v, e := model.Eval(none, k.m, 0); e != api.ErrArg || text(v) != text(api.Value{}) {
			t.Errorf("P10.2: of no Table: %s, %d", text(v), e)
		}
	}
}

// TestExample is the chapter's.
func TestExample(t *testing.T) {
	k := start(t, api.Table{Name: "x", Else: num("2")})
	k.is(k.op(api.Add, k.app("x"), k.num("1")), num("3"))
}

// truths tells what an operator makes of truths, by going through what it says.
func truths(op int, l []bool) bool {
	switch op {
	case api.And:
		return l[0] && (len(l) == 1 || truths(op, l[1:]))
	case api.Or:
		return l[0] || len(l) > 1 && truths(op, l[1:])
	case api.Imp:
		return len(l) == 1 && l[0] || len(l) > 1 && (!l[0] || truths(op, l[1:]))
	case api.Xor:
		last := len(l) - 1
		return last == 0 && l[0] || last > 0 && truths(op, l[:last]) != l[last]
	case api.Eq:
		return len(l) == 1 || l[0] == l[1] && truths(op, l[1:])
	}
	return len(l) == 2 && l[0] != l[1] // Unlike: there are but two
}

func TestTruths(t *testing.T) {
	k := start(t, api.Table{Name: "p", Else: truth(true)}, api.Table{Name: "q", Else: truth(false)})
	p, q := k.app("p"), k.app("q")
	k.is(k.op(api.True), truth(true))
	k.is(k.op(api.False), truth(false))
	k.is(k.op(api.Not, p), truth(false))
	k.is(k.op(api.Not, q), truth(true))
	for size := 2; size <= 5; size++ {
		for bits := range 1 << size {
			var args []int
			var l []bool
			for b := range size {
				on := bits>>b&1 == 1
				l = append(l, on)
				args = append(args, map[bool]int{true: p, false: q}[on])
			}
			for _, op := range []int{api.And, api.Or, api.Imp, api.Xor, api.Eq, api.Unlike} {
				k.is(k.op(op, args...), truth(truths(op, l)))
			}
		}
	}
}

// TestAlike holds Eq and Unlike, of each sort, against all pairs.
func TestAlike(t *testing.T) {
	k := start(t,
		api.Table{Name: "x", Else: num("1/2")}, api.Table{Name: "y", Else: num("1/2")}, api.Table{Name: "z", Else: num("-1/2")},
		api.Table{Name: "a", Else: el(2, 7)}, api.Table{Name: "b", Else: el(2, 7)}, api.Table{Name: "c", Else: el(2, 0)})
	for _, of := range [][]int{{k.app("x"), k.app("y"), k.app("z"), k.num("0")}, {k.app("a"), k.app("b"), k.app("c")}} {
		rows := [][]int{{}}
		for range 4 {
			var longer [][]int
			for _, row := range rows {
				for _, id := range of {
					longer = append(longer, append(append([]int{}, row...), id))
				}
			}
			rows = longer
			if len(rows[0]) < 2 {
				continue
			}
			for _, row := range rows {
				all, none := true, true
				for i := range row {
					for j := range i {
						a, _ := model.Eval(k.x, k.m, row[i])
						b, _ := model.Eval(k.x, k.m, row[j])
						all = all && told(a) == told(b)
						none = none && told(a) != told(b)
					}
				}
				k.is(k.op(api.Eq, row...), truth(all))
				k.is(k.op(api.Unlike, row...), truth(none))
			}
		}
	}
}

func TestChoices(t *testing.T) {
	k := start(t, api.Table{Name: "p", Else: truth(true)}, api.Table{Name: "q", Else: truth(false)},
		api.Table{Name: "x", Else: num("2")}, api.Table{Name: "y", Else: num("-1/2")}, api.Table{Name: "a", Else: el(2, 7)}, api.Table{Name: "b", Else: el(2, 0)})
	p, q := k.app("p"), k.app("q")
	for _, c := range []struct{ a, b int }{{k.app("x"), k.app("y")}, {k.app("a"), k.app("b")}, {q, p}, {k.num("1/3"), k.app("x")}} {
		a, _ := model.Eval(k.x, k.m, c.a)
		b, _ := model.Eval(k.x, k.m, c.b)
		k.is(k.op(api.Ite, p, c.a, c.b), a)
		k.is(k.op(api.Ite, q, c.a, c.b), b)
		k.is(k.op(api.Ite, k.op(api.Not, p), c.a, c.b), b)
	}
}

func TestFunctions(t *testing.T) {
	k := start(t,
		api.Table{Name: "x", Else: num("2")}, api.Table{Name: "y", Rows: []api.Row{{Value: num("-1/2")}}, Else: num("9")},
		api.Table{Name: "x", Else: num("3")},
		api.Table{Name: "a", Else: el(2, 1)}, api.Table{Name: "d", Else: el(3, 1)},
		api.Table{Name: "f", Rows: []api.Row{{Args: list(num("2")), Value: num("7")}, {Args: list(num("7")), Value: num("2")}, {Args: list(num("2")), Value: num("8")}}, Else: num("0")},
		api.Table{Name: "g", Rows: []api.Row{{Args: list(el(2, 1), num("7")), Value: el(2, 5)}, {Args: list(el(3, 1), num("2")), Value: el(2, 6)}, {Args: list(el(2, 1)), Value: el(2, 8)}}, Else: el(2, 0)},
		api.Table{Name: "h", Rows: []api.Row{{Args: list(num("2"), el(3, 1), num("-1/2")), Value: truth(false)}}, Else: truth(true)},
	)
	x, y, a, d := k.app("x"), k.app("y"), k.app("a"), k.app("d")
	k.is(x, num("2"))
	k.is(y, num("-1/2"))
	fx := k.app("f", x)
	k.is(fx, num("7"))
	k.is(k.app("f", fx), num("2"))
	k.is(k.app("f", k.app("f", fx)), num("7"))
	k.is(k.app("f", y), num("0"))
	k.is(k.app("f", k.num("7")), num("2"))
	k.is(k.app("g", a, fx), el(2, 5))
	k.is(k.app("g", a, x), el(2, 0))
	k.is(k.app("g", k.app("g", a, fx), fx), el(2, 0))
	k.is(k.app("h", x, d, y), truth(false))
	k.is(k.app("h", y, d, x), truth(true))
}

// TestNoTable: a function that the model has nothing of, wherever it stands,
// needed or not.
func TestNoTable(t *testing.T) {
	k := start(t, api.Table{Name: "p", Else: truth(true)}, api.Table{Name: "q", Else: truth(false)}, api.Table{Name: "x", Else: num("2")}, api.Table{Name: "zz", Else: num("2")})
	p, q, x, z := k.app("p"), k.app("q"), k.app("x"), k.app("z")
	fresh := k.made(k.x.Fresh(api.Real))
	k.not(z, api.ErrNone)
	k.not(fresh, api.ErrNone)
	k.not(k.app("f", x), api.ErrNone)
	for _, id := range []int{z, fresh, k.app("f", x)} {
		low := k.op(api.Lt, id, x)
		for _, up := range []int{
			k.op(api.Ite, p, x, id), k.op(api.Ite, q, id, x), k.op(api.Or, p, low), k.op(api.And, q, low), k.op(api.Imp, q, low), k.op(api.Not, low), k.op(api.Xor, low, low),
			k.op(api.Add, x, x, id), k.op(api.Sub, id), k.op(api.Mul, k.num("0"), id), k.op(api.Div, id, k.num("2")), k.op(api.Eq, id, id), k.op(api.Unlike, x, x, id), k.op(api.Lt, x, x, id),
		} {
			k.not(up, api.ErrNone)
		}
	}
	// With a table, one that Fresh made is as others are.
	n, _ := k.x.Node(fresh)
	k.m.Tables = append(k.m.Tables, api.Table{Name: n.Name, Else: num("-5")})
	k.is(fresh, num("-5"))
	k.is(k.op(api.Add, fresh, x), num("-3"))
	// What is beside the term is not asked.
	k.is(k.op(api.Sub, x), num("-2"))
}

// steps takes fractions together from the left.
func steps(op int, l []*big.Rat) *big.Rat {
	sum := new(big.Rat).Set(l[0])
	if op == api.Sub && len(l) == 1 {
		return sum.Neg(sum)
	}
	for _, a := range l[1:] {
		switch op {
		case api.Add:
			sum.Add(sum, a)
		case api.Sub:
			sum.Sub(sum, a)
		case api.Mul:
			sum.Mul(sum, a)
		case api.Div:
			sum.Quo(sum, a)
		}
	}
	return sum
}

// chain tells whether each stands so to the next.
func chain(op int, l []*big.Rat) bool {
	for k := 1; k < len(l); k++ {
		c := l[k-1].Cmp(l[k])
		if op == api.Le && c > 0 || op == api.Lt && c >= 0 || op == api.Ge && c < 0 || op == api.Gt && c <= 0 {
			return false
		}
	}
	return true
}

func TestNumbers(t *testing.T) {
	// All but the first of a product or a quotient are numbers: nothing else may
	// be made.
	texts := []string{"2", "-1/2", "7", "-7/3", "18446744073709551616/3"}
	k := start(t)
	var ids []int
	var bigs []*big.Rat
	for n, s := range texts {
		name := []string{"x", "y", "z", "", ""}[n]
		if name == "" {
			ids = append(ids, k.num(s))
		} else {
			k.m.Tables = append(k.m.Tables, api.Table{Name: name, Else: num(s)})
			ids = append(ids, k.app(name))
		}
		b, _ := new(big.Rat).SetString(s)
		bigs = append(bigs, b)
	}
	for code := range len(texts) * len(texts) * len(texts) {
		row := []int{code % 5, code / 5 % 5, code / 25}
		for size := 1; size <= 3; size++ {
			var args []int
			var l []*big.Rat
			for _, n := range row[:size] {
				args = append(args, ids[n])
				l = append(l, bigs[n])
			}
			for _, op := range []int{api.Add, api.Sub, api.Mul, api.Div, api.Le, api.Lt, api.Ge, api.Gt} {
				id, e := k.x.Make(op, "", api.Rat{}, args...)
				if e != api.OK {
					continue
				}
				if op >= api.Le {
					k.is(id, truth(chain(op, l)))
				} else {
					k.is(id, num(steps(op, l).RatString()))
				}
			}
		}
	}
	k.is(k.op(api.Sub, k.num("0")), num("0"))
	k.is(k.op(api.Div, k.app("x"), k.op(api.Sub, k.num("4")), k.op(api.Div, k.num("1"), k.num("3"))), num("-3/2"))
	k.is(k.op(api.Mul, k.num("3"), k.app("x"), k.num("-2")), num("-12"))
}

// power is 2^n.
func power(n uint) string { return new(big.Int).Lsh(big.NewInt(1), n).String() }

func TestTooBig(t *testing.T) {
	most := new(big.Int).Lsh(big.NewInt(1), 64*api.MaxLimbs)
	most.Sub(most, big.NewInt(1))
	k := start(t, api.Table{Name: "x", Else: num(most.String())}, api.Table{Name: "y", Else: num("-1")}, api.Table{Name: "q"})
	x, y, z, q := k.app("x"), k.app("y"), k.app("z"), k.app("q")
	half, one := k.num(power(64*api.MaxLimbs-1)), k.num("1")
	k.is(k.op(api.Add, x, y, one), num(most.String()))
	k.not(k.op(api.Add, x, one, y), api.ErrBig) // on the way
	k.not(k.op(api.Sub, y, x), api.ErrBig)
	k.is(k.op(api.Sub, x, x, x), num("-"+most.String()))
	k.not(k.op(api.Mul, x, k.num("2")), api.ErrBig)
	k.not(k.op(api.Mul, half, k.num("2"), k.num("1/2")), api.ErrBig) // on the way
	k.is(k.op(api.Mul, half, k.num("1/2"), k.num("2")), num(power(64*api.MaxLimbs-1)))
	k.not(k.op(api.Div, y, half, k.num("2")), api.ErrBig)
	big := k.op(api.Mul, half, half)
	none := k.op(api.Lt, z, one)
	low := k.op(api.Lt, big, one)
	for _, up := range []int{k.op(api.Ite, q, big, x), k.op(api.Eq, x, x, big), k.op(api.Mul, k.num("0"), big), k.op(api.Or, low, k.op(api.True)), k.app("f", big)} {
		k.not(up, api.ErrBig)
	}
	// The first error from the left is told, whichever term was there first.
	k.not(k.op(api.Or, low, none), api.ErrBig)
	k.not(k.op(api.Or, none, low), api.ErrNone)
	k.not(k.op(api.Or, k.op(api.True), k.op(api.Not, low), none), api.ErrBig)
	k.not(k.op(api.Or, k.op(api.True), k.op(api.Not, none), low), api.ErrNone)
	k.not(k.op(api.Add, z, big), api.ErrNone)
	k.not(k.op(api.Add, big, z), api.ErrBig)
	// Args come ahead of what stands above them.
	k.not(k.op(api.Add, half, half, z), api.ErrNone)
	k.not(k.app("f", big), api.ErrBig)
	k.not(k.app("f", z), api.ErrNone)
}

// TestNoNumbers: a model may say of a Real what is no number: nothing is told
// of its sum, and it is one with itself alone.
func TestNoNumbers(t *testing.T) {
	for _, bad := range values() {
		if bad.Sort != api.Real || rat.Valid(bad.Num) {
			continue
		}
		k := start(t, api.Table{Name: "x", Else: bad}, api.Table{Name: "y", Else: num("2")}, api.Table{Name: "f", Rows: []api.Row{{Args: list(bad), Value: num("6")}}, Else: num("5")})
		x, y := k.app("x"), k.app("y")
		k.is(x, bad)
		k.is(k.app("f", x), num("6"))
		k.is(k.app("f", y), num("5"))
		k.is(k.op(api.Eq, x, y), truth(false))
		k.is(k.op(api.Eq, x, x), truth(true))
		for _, id := range []int{k.op(api.Add, y, x), k.op(api.Sub, x), k.op(api.Sub, y, x), k.op(api.Mul, x, k.num("0")), k.op(api.Div, x, k.num("2"))} {
			k.not(id, api.ErrArg)
		}
	}
}

// TestWrongSorts: a model may say of a term what is not of its sort.
func TestWrongSorts(t *testing.T) {
	for _, v := range values() {
		var tables []api.Table
		for _, name := range []string{"p", "x", "a", "d", "f", "g", "h"} {
			tables = append(tables, api.Table{Name: name, Else: v})
		}
		k := start(t, tables...)
		p, x, a, d := k.app("p"), k.app("x"), k.app("a"), k.app("d")
		for _, id := range []int{p, x, a, d, k.app("f", x), k.app("g", a, x), k.app("h", x, d, x), k.op(api.Ite, p, a, a)} {
			k.is(id, v)
		}
		k.is(k.op(api.Eq, a, a), truth(true))
		k.is(k.op(api.Not, p), truth(!v.Bool))
		for _, op := range []int{api.Add, api.Sub, api.Le, api.Lt, api.Ge, api.Gt} {
			model.Eval(k.x, k.m, k.op(op, x, k.app("f", x)))
		}
	}
}

// TestOnce: the terms within could be gone to 2^200 times, or lie deep.
func TestOnce(t *testing.T) {
	k := start(t, api.Table{Name: "x", Else: num("1")}, api.Table{Name: "p", Else: truth(true)}, api.Table{Name: "f", Rows: []api.Row{{Args: list(num("3")), Value: num("4")}}, Else: num("3")})
	id := k.app("x")
	for range 100 {
		id = k.app("f", k.op(api.Sub, k.op(api.Add, id, id), id))
	}
	k.is(id, num("4"))
	yes := k.app("p")
	for range 100 {
		yes = k.op(api.Xor, yes, yes, yes)
	}
	k.is(yes, truth(true))
	deep, one, times := k.app("x"), k.num("1"), 1
	for ; k.x.Len() < api.MaxTerms; times++ {
		deep = k.op(api.Add, deep, one)
	}
	k.is(deep, num(fmt.Sprint(times)))
}

// plain is what a term is by a walk down from it, over the library's fractions.
func plain(x *term.Table, m api.Model, id int) string {
	n, _ := x.Node(id)
	var l []string
	var bools []bool
	var nums []*big.Rat
	for _, a := range n.Args {
		s := plain(x, m, a)
		l = append(l, s)
		bools = append(bools, s == told(truth(true)))
		var b big.Rat
		var digits string
		fmt.Sscanf(s, "the number %s", &digits)
		b.SetString(digits)
		nums = append(nums, &b)
	}
	switch n.Op {
	case api.Num:
		return "the number " + rat.Text(n.Val)
	case api.App:
		for _, tb := range m.Tables {
			if tb.Name != n.Name {
				continue
			}
			for _, row := range tb.Rows {
				same := len(row.Args) == len(l)
				for k := range row.Args {
					same = same && told(row.Args[k]) == l[k]
				}
				if same {
					return told(row.Value)
				}
			}
			return told(tb.Else)
		}
	case api.Ite:
		return map[bool]string{true: l[1], false: l[2]}[bools[0]]
	case api.Add, api.Sub, api.Mul, api.Div:
		return "the number " + steps(n.Op, nums).RatString()
	case api.Le, api.Lt, api.Ge, api.Gt:
		return told(truth(chain(n.Op, nums)))
	case api.True, api.False:
		return told(truth(n.Op == api.True))
	case api.Not:
		return told(truth(!bools[0]))
	case api.Eq, api.Unlike:
		so := true
		for i := range l {
			for j := range i {
				so = so && (l[i] == l[j]) == (n.Op == api.Eq)
			}
		}
		return told(truth(so))
	}
	return told(truth(truths(n.Op, bools)))
}

// TestWalks makes terms at random, and models, and holds each term against a
// walk down from it.
func TestWalks(t *testing.T) {
	rnd := rand.New(rand.NewSource(10))
	one := func(sort int) api.Value {
		switch sort {
		case 0:
			return truth(rnd.Intn(2) == 0)
		case 1:
			return api.Value{Sort: 1, Num: rat.Of(rnd.Intn(5)-2, 1+rnd.Intn(2))}
		}
		return el(sort, rnd.Intn(3))
	}
	for range 60 {
		s, x := bed()
		var m api.Model
		for _, f := range s.Funs() {
			tb := api.Table{Name: f.Name, Else: one(f.Result)}
			for range 4 {
				var args []api.Value
				for _, sort := range f.Args {
					args = append(args, one(sort))
				}
				tb.Rows = append(tb.Rows, api.Row{Args: args, Value: one(f.Result)})
			}
			m.Tables = append(m.Tables, tb)
			if len(f.Args) == 0 {
				x.Make(api.App, f.Name, api.Rat{})
			}
		}
		for tries := 0; tries < 4000 && x.Len() < 60; tries++ {
			args := make([]int, rnd.Intn(4))
			for k := range args {
				args[k] = rnd.Intn(x.Len())
			}
			op := 1 + rnd.Intn(20)
			switch op {
			case api.Num:
				x.Make(op, "", rat.Of(rnd.Intn(7)-3, 1+rnd.Intn(3)))
			case api.App:
				x.Make(op, []string{"f", "g", "h"}[rnd.Intn(3)], api.Rat{}, args...)
			default:
				x.Make(op, "", api.Rat{}, args...)
			}
		}
		for id := range x.Len() {
			v, e := model.Eval(x, m, id)
			if want := plain(x, m, id); e != api.OK || told(v) != want {
				n, _ := x.Node(id)
				t.Fatalf("P10.2: %v: %s, %d; want %s", n, text(v), e, want)
			}
			if sort, _ := x.Sort(id); v.Sort != sort {
				t.Fatalf("P10.2: %d is of sort %d, its value of %d", id, sort, v.Sort)
			}
		}
	}
}
