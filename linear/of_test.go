package linear_test

import (
	"fmt"
	"math"
	"math/big"
	"math/rand"
	"testing"

	"theodolite/api"
	"theodolite/linear"
	"theodolite/rat"
	"theodolite/sorts"
	"theodolite/term"
)

// maker makes terms that may be.
type maker struct {
	t *testing.T
	x *term.Table
}

func start(t *testing.T) maker {
	s := sorts.New()
	s.Sort("A")
	for _, f := range []api.Fun{{Name: "x", Result: 1}, {Name: "y", Result: 1}, {Name: "z", Result: 1}, {Name: "p", Result: 0}, {Name: "a", Result: 2}, {Name: "f", Args: []int{1}, Result: 1}, {Name: "g", Args: []int{2}, Result: 1}} {
		if s.Fun(f) != api.OK {
			t.Fatal(f.Name)
		}
	}
	return maker{t, term.New(s)}
}

func (m maker) sure(id int, e api.Errno) int {
	m.t.Helper()
	if e != api.OK {
		m.t.Fatalf("a term that may be: %d, %d", id, e)
	}
	return id
}

func (m maker) app(name string, args ...int) int {
	m.t.Helper()
	return m.sure(m.x.Make(api.App, name, api.Rat{}, args...))
}

func (m maker) op(op int, args ...int) int {
	m.t.Helper()
	return m.sure(m.x.Make(op, "", api.Rat{}, args...))
}

func (m maker) num(s string) int {
	m.t.Helper()
	return m.sure(m.x.Make(api.Num, "", r(s)))
}

func (m maker) big(a *big.Rat) int { return m.num(a.RatString()) }

// is wants a term's sum.
func (m maker) is(id int, want api.Poly) {
	m.t.Helper()
	got, e := linear.Of(m.x, id)
	is(m.t, fmt.Sprint("P8.1: Of ", id), got, e, want)
}

func (m maker) refused(id int, want api.Errno) {
	m.t.Helper()
	got, e := linear.Of(m.x, id)
	refused(m.t, fmt.Sprint("P8.1: Of ", id), got, e, want)
}

// P8.1

func TestOfEach(t *testing.T) {
	m := start(t)
	x, y, z, p, a := m.app("x"), m.app("y"), m.app("z"), m.app("p"), m.app("a")
	two, third, nought := m.num("2"), m.num("-1/3"), m.num("0")
	m.is(x, sum("1", x, "0"))
	m.is(two, sum("2"))
	m.is(third, sum("-1/3"))
	m.is(nought, sum("0"))
	f, g := m.app("f", m.op(api.Add, x, y)), m.app("g", a)
	m.is(f, sum("1", f, "0"))
	m.is(g, sum("1", g, "0"))
	ite := m.op(api.Ite, p, m.op(api.Add, x, two), two)
	m.is(ite, sum("1", ite, "0"))
	m.is(m.op(api.Add, x, y), sum("1", x, "1", y, "0"))
	m.is(m.op(api.Add, y, x), sum("1", x, "1", y, "0"))
	m.is(m.op(api.Add, x, two, x, third, z), sum("2", x, "1", z, "5/3"))
	m.is(m.op(api.Sub, x), sum("-1", x, "0"))
	m.is(m.op(api.Sub, two), sum("-2"))
	m.is(m.op(api.Sub, nought), sum("0"))
	m.is(m.op(api.Sub, x, y), sum("1", x, "-1", y, "0"))
	m.is(m.op(api.Sub, x, y, two, x, x, third), sum("-1", x, "-1", y, "-5/3"))
	m.is(m.op(api.Sub, x, x), sum("0"))
	m.is(m.op(api.Mul, two, x), sum("2", x, "0"))
	m.is(m.op(api.Mul, x, two), sum("2", x, "0"))
	m.is(m.op(api.Mul, two, x, third, two), sum("-4/3", x, "0"))
	m.is(m.op(api.Mul, two, third, third), sum("2/9"))
	m.is(m.op(api.Mul, two, two), sum("4"))
	m.is(m.op(api.Mul, nought, x), sum("0"))
	m.is(m.op(api.Mul, m.op(api.Sub, x, two), third), sum("-1/3", x, "2/3"))
	m.is(m.op(api.Mul, m.op(api.Sub, two), m.op(api.Div, two, third), x), sum("12", x, "0"))
	m.is(m.op(api.Mul, m.op(api.Add, two, two), two), sum("8"))
	m.is(m.op(api.Div, x, two), sum("1/2", x, "0"))
	m.is(m.op(api.Div, two, third), sum("-6"))
	m.is(m.op(api.Div, m.op(api.Add, x, two), third, two, m.op(api.Sub, third)), sum("-9/2", x, "-9"))
	m.is(m.op(api.Div, nought, two), sum("0"))
	m.is(m.op(api.Add, x, m.op(api.Mul, two, m.op(api.Sub, y, x))), sum("-1", x, "2", y, "0"))
	m.is(m.op(api.Add, m.op(api.Mul, two, ite), ite, f), sum("1", f, "3", ite, "0"))
}

func TestOfNone(t *testing.T) {
	m := start(t)
	x, p, a := m.app("x"), m.app("p"), m.app("a")
	for _, id := range []int{p, a, m.op(api.Not, p), m.op(api.Le, x, x), m.op(api.Eq, x, x), m.op(api.Ite, p, p, p), m.op(api.Ite, p, a, a), m.op(api.True), m.x.Len(), m.x.Len() + 1, -1, math.MinInt, math.MaxInt} {
		m.refused(id, api.ErrArg)
	}
	for _, none := range []*term.Table{nil, {}, term.New(nil), term.New(sorts.New())} {
		for id := -1; id < 3; id++ {
			got, e := linear.Of(none, id)
			refused(t, "P8.1: Of, in a table without terms", got, e, api.ErrArg)
		}
	}
}

// TestOfTooBig: what is too big on the way is told, though the whole might not be.
func TestOfTooBig(t *testing.T) {
	m := start(t)
	x := m.app("x")
	huge, tiny, least := m.big(most()), m.big(new(big.Rat).Inv(most())), m.big(new(big.Rat).Neg(most()))
	one, minus, nought, two := m.num("1"), m.num("-1"), m.num("0"), m.num("2")
	hugeX := m.op(api.Mul, huge, x)
	sumHuge := m.op(api.Add, huge, nought)
	for _, id := range []int{
		m.op(api.Add, huge, one), m.op(api.Add, huge, one, minus), m.op(api.Add, hugeX, x), m.op(api.Add, x, hugeX, m.op(api.Sub, x)),
		m.op(api.Sub, huge, minus), m.op(api.Sub, least, one, minus), m.op(api.Sub, m.op(api.Sub, hugeX), x), m.op(api.Sub, one, least, one),
		m.op(api.Mul, huge, huge), m.op(api.Mul, huge, huge, nought), m.op(api.Mul, two, huge, tiny), m.op(api.Mul, huge, two, x),
		m.op(api.Mul, huge, x, two, tiny), m.op(api.Mul, two, hugeX), m.op(api.Mul, tiny, m.op(api.Mul, tiny, x)),
		m.op(api.Mul, huge, two, sumHuge, tiny), m.op(api.Mul, tiny, tiny, sumHuge),
		m.op(api.Div, huge, tiny), m.op(api.Div, huge, tiny, huge), m.op(api.Div, x, huge, huge), m.op(api.Div, x, huge, two, tiny),
		m.op(api.Div, tiny, two), m.op(api.Div, hugeX, m.op(api.Div, one, two), huge),
	} {
		m.refused(id, api.ErrBig)
		// Beside or under another one it is told, too.
		m.refused(m.op(api.Add, x, one, id), api.ErrBig)
		m.refused(m.op(api.Sub, id, id), api.ErrBig)
		m.refused(m.op(api.Sub, id), api.ErrBig)
		m.refused(m.op(api.Mul, nought, id), api.ErrBig)
		m.refused(m.op(api.Div, m.op(api.Mul, id, one), two), api.ErrBig)
		m.refused(m.op(api.Mul, x, one, m.op(api.Div, m.op(api.Sub, m.op(api.Div, huge, tiny)), two)), api.ErrBig)
		f, ite := m.app("f", id), m.op(api.Ite, m.app("p"), id, x)
		m.is(f, sum("1", f, "0"))
		m.is(m.op(api.Add, ite, f), sum("1", f, "1", ite, "0"))
	}
}

// TestOfNotTooBig: in another order, or another way, it would be too big.
func TestOfNotTooBig(t *testing.T) {
	m := start(t)
	x := m.app("x")
	huge, tiny, least := m.big(most()), m.big(new(big.Rat).Inv(most())), m.big(new(big.Rat).Neg(most()))
	one, minus, nought, two := m.num("1"), m.num("-1"), m.num("0"), m.num("2")
	hugeX := m.op(api.Mul, huge, x)
	sumHuge := m.op(api.Add, huge, nought)
	c := api.Poly{Const: of(most())}
	k := with(most(), x, new(big.Rat))
	m.is(huge, c)
	m.is(hugeX, k)
	m.is(sumHuge, c)
	m.is(m.op(api.Sub, least), c)
	m.is(m.op(api.Add, huge, minus, one), c)
	m.is(m.op(api.Add, least, huge, huge), c)
	m.is(m.op(api.Sub, huge, one, minus), c)
	m.is(m.op(api.Sub, x, m.op(api.Sub, x), x, x, x, m.op(api.Sub, x), least), api.Poly{Const: of(most())})
	m.is(m.op(api.Mul, huge, tiny, huge), c)
	m.is(m.op(api.Mul, huge, nought, huge), sum("0"))
	m.is(m.op(api.Mul, nought, huge, x, huge), sum("0"))
	m.is(m.op(api.Mul, two, x, m.big(power(-1)), huge), k)
	// By its writing sumHuge is no number: it comes last.
	m.is(m.op(api.Mul, huge, sumHuge, tiny), c)
	m.is(m.op(api.Mul, sumHuge, huge, m.op(api.Sub, tiny), minus), c)
	m.is(m.op(api.Mul, sumHuge, huge, m.op(api.Div, tiny, one)), c)
	m.is(m.op(api.Mul, m.op(api.Sub, sumHuge), huge, tiny, minus), c)
	m.is(m.op(api.Mul, m.op(api.Div, sumHuge, two), huge, tiny, two), c)
	m.is(m.op(api.Mul, m.op(api.Sub, huge, nought), huge, tiny), c)
	m.is(m.op(api.Div, huge, huge, tiny), c)
	m.is(m.op(api.Div, hugeX, huge, tiny, two, m.big(power(-1))), k)
}

// TestOfShared: a term that is there often is reckoned once.
func TestOfShared(t *testing.T) {
	m := start(t)
	deep, n := m.app("x"), 0
	for range 1200 {
		switch n++; n % 3 {
		case 0:
			deep = m.op(api.Add, deep, deep)
		case 1:
			deep = m.op(api.Sub, deep, deep, m.op(api.Sub, deep))
		default:
			deep = m.op(api.Add, deep, m.op(api.Mul, m.num("3"), deep))
		}
	}
	m.is(deep, with(power(1200), 0, new(big.Rat)))
}

// TestOfDeep: as deep as may be.
func TestOfDeep(t *testing.T) {
	m := start(t)
	deep := m.app("x")
	for m.x.Len() < api.MaxTerms {
		deep = m.op(api.Sub, deep)
	}
	m.is(deep, sum("-1", 0, "0"))
}

// TestOfLong: sums of sums, each one longer than the one before.
func TestOfLong(t *testing.T) {
	m := start(t)
	var want api.Poly
	long := m.num("1/2")
	for range 3000 {
		x := m.sure(m.x.Fresh(api.Real))
		long = m.op(api.Add, long, x)
		want.Parts = append(want.Parts, api.Part{Coef: r("1"), Term: x})
	}
	want.Const = r("1/2")
	m.is(long, want)
}

// plain is the sum that a term is, by a walk that comes to each as often as it
// is there; false, where a step is too big.
func plain(x *term.Table, id int) (table, bool) {
	n, _ := x.Node(id)
	one := table{-1: new(big.Rat), id: power(0)}
	switch n.Op {
	case api.Num:
		return table{-1: back(n.Val)}, true
	case api.Add, api.Sub, api.Mul, api.Div:
	default:
		return one, true
	}
	var of []table
	good := true
	for _, a := range n.Args {
		s, ok := plain(x, a)
		of = append(of, s)
		good = good && ok
	}
	if !good {
		return nil, false
	}
	minus := big.NewRat(-1, 1)
	sum := of[0].copy()
	switch {
	case n.Op == api.Sub && len(of) == 1:
		sum = table{-1: new(big.Rat)}
		good = sum.plus(of[0], minus)
	case n.Op == api.Mul:
		by := power(0)
		sum = table{-1: power(0)}
		for k, a := range n.Args {
			if !isNumber(x, a) {
				sum = of[k]
				continue
			}
			by = new(big.Rat).Mul(by, of[k][-1])
			good = good && fits(by)
		}
		product := table{-1: new(big.Rat)}
		good = good && product.plus(sum, by)
		sum = product
	default:
		for _, o := range of[1:] {
			switch n.Op {
			case api.Add:
				good = good && sum.plus(o, power(0))
			case api.Sub:
				good = good && sum.plus(o, minus)
			default:
				by := table{-1: new(big.Rat)}
				good = good && by.plus(sum, new(big.Rat).Inv(o[-1]))
				sum = by
			}
		}
	}
	return sum, good
}

func isNumber(x *term.Table, id int) bool {
	n, _ := x.Node(id)
	switch {
	case n.Op == api.Num:
		return true
	case n.Op == api.Sub && len(n.Args) == 1, n.Op == api.Div:
		return isNumber(x, n.Args[0])
	}
	return false
}

// TestOfWalk: terms as they come, against walks down from them.
func TestOfWalk(t *testing.T) {
	told := map[api.Errno]int{}
	for seed := range int64(60) {
		g := rand.New(rand.NewSource(seed))
		m := start(t)
		reals := []int{m.app("x"), m.app("y"), m.app("z"), m.num("0"), m.num("1"), m.num("-2/3"), m.big(power(2100)), m.big(power(-2100))}
		for range 120 {
			op := []int{api.Add, api.Sub, api.Mul, api.Div, api.Ite, api.App}[g.Intn(6)]
			name, args := "", []int{}
			for range g.Intn(4) + 1 {
				args = append(args, reals[g.Intn(len(reals))])
			}
			if op == api.Ite {
				args = append([]int{m.app("p")}, args...)
			}
			if op == api.App {
				name = "f"
			}
			id, e := m.x.Make(op, name, api.Rat{}, args...)
			if e != api.OK {
				continue
			}
			want, ok := plain(m.x, id)
			got, e := linear.Of(m.x, id)
			told[e]++
			if ok {
				is(t, fmt.Sprint("P8.1: Of ", seed, " ", op, args), got, e, want.poly())
				reals = append(reals, id)
			} else {
				refused(t, fmt.Sprint("P8.1: Of ", seed, " ", op, args), got, e, api.ErrBig)
			}
		}
	}
	if told[api.OK] < 1000 || told[api.ErrBig] < 30 {
		t.Errorf("the walk came to %v", told)
	}
}

// TestOfAndValue: a sum is what its term is, whatever the constants are.
func TestOfAndValue(t *testing.T) {
	m := start(t)
	x, y := m.app("x"), m.app("y")
	// 2 (x - y) / 3 - (y + 1) - -5/2
	id := m.op(api.Sub, m.op(api.Div, m.op(api.Mul, m.num("2"), m.op(api.Sub, x, y)), m.num("3")), m.op(api.Add, y, m.num("1")), m.num("-5/2"))
	p, _ := linear.Of(m.x, id)
	got, e := linear.Value(p, func(id int) api.Rat {
		if id == x {
			return r("7")
		}
		return r("1/2")
	})
	if e != api.OK || rat.Text(got) != "16/3" {
		t.Errorf("P8.2: %s, %d", rat.Text(got), e)
	}
}
