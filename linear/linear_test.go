package linear_test

import (
	"fmt"
	"math"
	"math/big"
	"math/rand"
	"slices"
	"testing"

	"theodolite/api"
	"theodolite/linear"
	"theodolite/rat"
)

// r is a fraction.
func r(s string) api.Rat {
	a, e := rat.Parse(s)
	if e != api.OK {
		panic(s)
	}
	return a
}

// sum is a sum of numbers and ids, and a number at last.
func sum(l ...any) (p api.Poly) {
	for k := 0; k+1 < len(l); k += 2 {
		p.Parts = append(p.Parts, api.Part{Coef: r(l[k].(string)), Term: l[k+1].(int)})
	}
	p.Const = r(l[len(l)-1].(string))
	return p
}

// text is a sum by what its fields hold: nil and an empty list are the same.
func text(p api.Poly) string {
	s := ""
	for _, x := range p.Parts {
		s += number(x.Coef) + "*" + fmt.Sprint(x.Term) + " "
	}
	return s + number(p.Const)
}

// number is a fraction by what its fields hold.
func number(a api.Rat) string {
	if rat.Valid(a) {
		return rat.Text(a)
	}
	return fmt.Sprintf("(%v %v %v)", a.Neg, a.Num, a.Den)
}

// is wants an answer.
func is(t *testing.T, what string, got api.Poly, e api.Errno, want api.Poly) {
	t.Helper()
	if e != api.OK || text(got) != text(want) {
		t.Errorf("%s: %.200s, %d; want %.200s", what, text(got), e, text(want))
	}
}

// refused wants an error, and no sum beside it.
func refused(t *testing.T, what string, got api.Poly, e, want api.Errno) {
	t.Helper()
	if e != want || len(got.Parts) != 0 || number(got.Const) != number(api.Rat{}) {
		t.Errorf("%s: %.200s, %d; want error %d", what, text(got), e, want)
	}
}

// power is 2^n, of n below 0 a fraction.
func power(n int) *big.Rat {
	p := new(big.Int).Lsh(big.NewInt(1), uint(max(n, -n)))
	if n < 0 {
		return new(big.Rat).SetFrac(big.NewInt(1), p)
	}
	return new(big.Rat).SetInt(p)
}

// most is the greatest whole number there is.
func most() *big.Rat { return new(big.Rat).Sub(power(64*api.MaxLimbs), power(0)) }

// fits tells whether a number has no more limbs than it may.
func fits(a *big.Rat) bool {
	return a.Num().BitLen() <= 64*api.MaxLimbs && a.Denom().BitLen() <= 64*api.MaxLimbs
}

func of(a *big.Rat) api.Rat { return r(a.RatString()) }

func back(a api.Rat) *big.Rat {
	b, ok := new(big.Rat).SetString(rat.Text(a))
	if !ok {
		panic(number(a))
	}
	return b
}

// noNumbers are what no number may be.
func noNumbers() []api.Rat {
	one := []uint64{1}
	return []api.Rat{
		{}, {Num: one}, {Neg: true, Den: one}, {Num: one, Den: []uint64{0}}, {Num: []uint64{2}, Den: []uint64{2}},
		{Num: []uint64{3, 0}, Den: one}, {Num: slices.Repeat(one, api.MaxLimbs+1), Den: one}, {Den: []uint64{2}},
	}
}

// noSums are what no sum may be.
func noSums() []api.Poly {
	list := []api.Poly{
		{},
		{Parts: sum("1", 2, "0").Parts},
		sum("0", 1, "0"),
		sum("1", 1, "0", 2, "5"),
		sum("1", -1, "0"),
		sum("1", math.MinInt, "0"),
		sum("1", -2, "1", -1, "0"),
		sum("1", -1, "1", 0, "0"),
		sum("1", 3, "1", 3, "0"),
		sum("1", 3, "1", 2, "0"),
		sum("1", 1, "1", 3, "1", 2, "0"),
		sum("1", 1, "1", 3, "1", 3, "0"),
		sum("1", 2, "1", 1, "1", 3, "0"),
	}
	for _, bad := range noNumbers() {
		p := sum("1", 1, "-1/2", 2, "1", 4, "3")
		p.Const = bad
		list = append(list, p)
		for k := range p.Parts {
			q := sum("1", 1, "-1/2", 2, "1", 4, "3")
			q.Parts[k].Coef = bad
			list = append(list, q)
		}
	}
	return list
}

// sums are some that may be.
func sums() []api.Poly {
	return []api.Poly{
		sum("0"), sum("1"), sum("-7/2"), sum("1", 0, "0"), sum("-1", 0, "1"), sum("1", math.MaxInt, "2"),
		sum("1", 2, "-3", 5, "1/2"), sum("2", 1, "3", 5, "1", 7, "1/2"), sum("1/3", 1, "-1", 2, "0"), sum("-1/3", 1, "1", 2, "0"),
		sum("1", 0, "2", 1, "3", 2, "4", 3, "5"), sum("-1", 0, "-2", 1, "-3", 2, "-4", 3, "-5"), sum("7/5", 0, "8/5", 2, "9/5", math.MaxInt, "-1/5"),
		{Parts: []api.Part{}, Const: api.Rat{Num: []uint64{}, Den: []uint64{1}}},
	}
}

// table is a sum as a map, with its number at -1.
type table map[int]*big.Rat

func tableOf(p api.Poly) table {
	t := table{-1: back(p.Const)}
	for _, x := range p.Parts {
		t[x.Term] = back(x.Coef)
	}
	return t
}

// plus adds, to what is there, another by a number; false, if that is too big.
func (t table) plus(o table, k *big.Rat) bool {
	good := true
	for id, c := range o {
		by := new(big.Rat).Mul(c, k)
		good = good && fits(by)
		if t[id] == nil {
			t[id] = new(big.Rat)
		}
		t[id] = new(big.Rat).Add(t[id], by)
		good = good && fits(t[id])
		if id >= 0 && t[id].Sign() == 0 {
			delete(t, id)
		}
	}
	return good
}

func (t table) poly() (p api.Poly) {
	var ids []int
	for id := range t {
		if id >= 0 {
			ids = append(ids, id)
		}
	}
	slices.Sort(ids)
	for _, id := range ids {
		p.Parts = append(p.Parts, api.Part{Coef: of(t[id]), Term: id})
	}
	p.Const = of(t[-1])
	return p
}

func (t table) copy() table {
	c := table{-1: new(big.Rat)}
	c.plus(t, power(0))
	return c
}

// P8.1

func TestValid(t *testing.T) {
	for _, p := range sums() {
		if !linear.Valid(p) {
			t.Errorf("%s is a sum", text(p))
		}
	}
	for _, p := range noSums() {
		if linear.Valid(p) {
			t.Errorf("%s is no sum", text(p))
		}
	}
	long := api.Poly{Const: of(most())}
	for id := range 5000 {
		long.Parts = append(long.Parts, api.Part{Coef: r("-1/7"), Term: 3 * id})
	}
	if !linear.Valid(long) {
		t.Error("a long one is a sum")
	}
	long.Parts[4999].Term = 3 * 4998
	if linear.Valid(long) {
		t.Error("a long one whose last Term is there twice is no sum")
	}
}

func TestAddAndScale(t *testing.T) {
	for _, p := range sums() {
		for _, q := range sums() {
			want := tableOf(p)
			want.plus(tableOf(q), power(0))
			got, e := linear.Add(p, q)
			is(t, "P8.1: "+text(p)+" and "+text(q), got, e, want.poly())
			if !linear.Valid(got) {
				t.Errorf("P8.1: %s is no sum", text(got))
			}
		}
		for _, k := range []string{"0", "1", "-1", "2", "-2/3", "1/1000000007"} {
			want := table{-1: new(big.Rat)}
			want.plus(tableOf(p), back(r(k)))
			for id := range want {
				if id >= 0 && want[id].Sign() == 0 {
					delete(want, id)
				}
			}
			got, e := linear.Scale(p, r(k))
			is(t, "P8.1: "+text(p)+" by "+k, got, e, want.poly())
		}
	}
}

func TestAddAndScaleOfNoSums(t *testing.T) {
	huge := sum("1", 1, "0")
	huge.Const = of(most())
	for _, bad := range noSums() {
		for _, p := range append(sums(), bad, huge) {
			got, e := linear.Add(p, bad)
			refused(t, "P8.1: Add to "+text(p), got, e, api.ErrArg)
			got, e = linear.Add(bad, p)
			refused(t, "P8.1: Add "+text(p), got, e, api.ErrArg)
		}
		for _, k := range []string{"0", "1", "-1/2"} {
			got, e := linear.Scale(bad, r(k))
			refused(t, "P8.1: Scale of "+text(bad), got, e, api.ErrArg)
		}
	}
	for _, k := range noNumbers() {
		for _, p := range append(append(sums(), huge), noSums()...) {
			got, e := linear.Scale(p, k)
			refused(t, "P8.1: Scale by "+number(k), got, e, api.ErrArg)
		}
	}
}

// with is a sum of a number with a term, and another one.
func with(c *big.Rat, id int, k *big.Rat) api.Poly {
	return api.Poly{Parts: []api.Part{{Coef: of(c), Term: id}}, Const: of(k)}
}

func TestTooBig(t *testing.T) {
	one, huge, tiny := power(0), most(), new(big.Rat).Inv(most())
	minus := new(big.Rat).Neg(one)
	add := func(p, q api.Poly) func() (api.Poly, api.Errno) {
		return func() (api.Poly, api.Errno) { return linear.Add(p, q) }
	}
	scale := func(p api.Poly, k *big.Rat) func() (api.Poly, api.Errno) {
		return func() (api.Poly, api.Errno) { return linear.Scale(p, of(k)) }
	}
	for k, call := range []func() (api.Poly, api.Errno){
		add(with(huge, 1, one), with(one, 1, one)),
		add(with(one, 1, huge), with(one, 2, one)),
		add(with(one, 1, tiny), with(minus, 1, one)),
		add(with(one, 1, one), with(tiny, 1, one)),
		scale(with(huge, 1, one), power(1)),
		scale(with(one, 1, huge), power(1)),
		scale(with(tiny, 1, one), power(-1)),
		scale(with(one, 1, tiny), power(-1)),
		scale(with(huge, 1, huge), huge),
	} {
		got, e := call()
		refused(t, fmt.Sprint("P8.1: too big ", k), got, e, api.ErrBig)
	}
	for k, call := range []func() (api.Poly, api.Errno){
		add(with(huge, 1, huge), with(minus, 1, minus)),
		add(with(huge, 1, huge), with(one, 2, minus)),
		add(with(huge, 1, tiny), with(tiny, 2, new(big.Rat))),
		scale(with(huge, 1, tiny), minus),
		scale(with(huge, 1, huge), tiny),
		scale(with(tiny, 1, tiny), huge),
		scale(with(huge, 1, tiny), new(big.Rat)),
		scale(with(power(4000), 1, power(-4000)), power(95)),
	} {
		if got, e := call(); e != api.OK || !linear.Valid(got) {
			t.Errorf("P8.1: as big as may be %d: %d", k, e)
		}
	}
}

// P8.2

func TestCoef(t *testing.T) {
	for _, p := range sums() {
		of := map[int]string{}
		for _, x := range p.Parts {
			of[x.Term] = rat.Text(x.Coef)
		}
		for _, id := range []int{math.MinInt, -2, -1, 0, 1, 2, 3, 4, 5, 6, 7, 8, 100, math.MaxInt - 1, math.MaxInt} {
			want := "0"
			if c, there := of[id]; there {
				want = c
			}
			if got := linear.Coef(p, id); number(got) != want {
				t.Errorf("P8.2: Coef(%s, %d): %s", text(p), id, number(got))
			}
		}
	}
	for _, p := range noSums() {
		for id := -2; id < 6; id++ {
			if got := linear.Coef(p, id); number(got) != "0" {
				t.Errorf("P8.2: Coef(%s, %d), of no sum: %s", text(p), id, number(got))
			}
		}
	}
}

func TestSolve(t *testing.T) {
	for _, p := range sums() {
		for _, x := range p.Parts {
			want := table{-1: new(big.Rat)}
			by := new(big.Rat).Inv(back(x.Coef))
			want.plus(tableOf(p), by.Neg(by))
			delete(want, x.Term)
			got, e := linear.Solve(p, x.Term)
			is(t, fmt.Sprintf("P8.2: Solve(%s, %d)", text(p), x.Term), got, e, want.poly())
		}
		for _, id := range []int{math.MinInt, -1, 4, 6, 100, math.MaxInt - 1} {
			got, e := linear.Solve(p, id)
			refused(t, fmt.Sprintf("P8.2: Solve(%s, %d)", text(p), id), got, e, api.ErrArg)
		}
	}
	for _, p := range noSums() {
		for id := -2; id < 6; id++ {
			got, e := linear.Solve(p, id)
			refused(t, fmt.Sprintf("P8.2: Solve(%s, %d), of no sum", text(p), id), got, e, api.ErrArg)
		}
	}
}

func TestSolveTooBig(t *testing.T) {
	huge, tiny := most(), new(big.Rat).Inv(most())
	p := with(tiny, 3, power(1))
	got, e := linear.Solve(p, 3)
	refused(t, "P8.2: a Const that is too big", got, e, api.ErrBig)
	p = api.Poly{Parts: []api.Part{{Coef: of(power(1)), Term: 1}, {Coef: of(tiny), Term: 3}}, Const: r("0")}
	got, e = linear.Solve(p, 3)
	refused(t, "P8.2: a Coef that is too big", got, e, api.ErrBig)
	got, e = linear.Solve(with(tiny, 3, power(0)), 3)
	is(t, "P8.2: as big as may be", got, e, api.Poly{Const: of(new(big.Rat).Neg(huge))})
	got, e = linear.Solve(with(huge, 3, huge), 3)
	is(t, "P8.2: huge by huge", got, e, sum("-1"))
}

func TestSame(t *testing.T) {
	list := append(sums()[:13:13], noSums()...)
	list = append(list, api.Poly{Parts: []api.Part{{Term: 1}}}, api.Poly{Const: api.Rat{Neg: true}}, api.Poly{Const: api.Rat{Den: []uint64{3}}}, api.Poly{Const: api.Rat{Num: []uint64{3}}})
	for i, p := range list {
		for k, q := range list {
			if linear.Same(p, q) != (text(p) == text(q)) {
				t.Errorf("P8.2: %d, %d: Same(%.100s, %.100s)", i, k, text(p), text(q))
			}
		}
	}
	nought := api.Poly{Parts: []api.Part{}, Const: api.Rat{Num: []uint64{}, Den: []uint64{1}}}
	if !linear.Same(nought, sum("0")) || !linear.Same(sum("0"), nought) || !linear.Same(api.Poly{}, api.Poly{Parts: []api.Part{}, Const: api.Rat{Num: []uint64{}}}) {
		t.Error("P8.2: nil and an empty list are the same")
	}
	p, q := sum("1", 1, "2", 2, "3"), sum("1", 1, "2", 2, "3")
	if !linear.Same(p, q) {
		t.Error("P8.2: the same in other memory")
	}
	q.Parts[1].Coef.Neg = true
	if linear.Same(p, q) || linear.Same(p, sum("1", 1, "3")) || linear.Same(sum("1", 1, "3"), p) {
		t.Error("P8.2: unlike ones")
	}
}

// TestWalk: sums and what is made of them, against tables.
func TestWalk(t *testing.T) {
	for seed := range int64(40) {
		g := rand.New(rand.NewSource(seed))
		p, want := sum("0"), table{-1: new(big.Rat)}
		for range 60 {
			q := table{-1: big.NewRat(g.Int63n(9)-4, g.Int63n(3)+1)}
			for range g.Intn(4) {
				if c := g.Int63n(7) - 3; c != 0 {
					q[g.Intn(6)] = big.NewRat(c, g.Int63n(3)+1)
				}
			}
			got, e := linear.Add(p, q.poly())
			want.plus(q, power(0))
			is(t, "P8.1: Add", got, e, want.poly())
			k := big.NewRat(g.Int63n(5)+1, g.Int63n(5)-6)
			got, e = linear.Scale(got, of(k))
			scaled := table{-1: new(big.Rat)}
			scaled.plus(want, k)
			want = scaled
			is(t, "P8.1: Scale", got, e, want.poly())
			p = got
		}
	}
}
