package atom_test

import (
	"fmt"
	"math"
	"math/big"
	"slices"
	"testing"

	"theodolite/api"
	"theodolite/atom"
	"theodolite/rat"
)

// r is a fraction.
func r(s string) api.Rat {
	a, e := rat.Parse(s)
	if e != api.OK {
		panic(s)
	}
	return a
}

// sum is a sum of numbers and ids, and a number at last.
func sum(l ...any) (p api.Poly) {
	for k := 0; k+1 < len(l); k += 2 {
		p.Parts = append(p.Parts, api.Part{Coef: r(l[k].(string)), Term: l[k+1].(int)})
	}
	p.Const = r(l[len(l)-1].(string))
	return p
}

// number is a fraction by what its fields hold: nil and an empty list are the
// same.
func number(a api.Rat) string {
	if rat.Valid(a) {
		return rat.Text(a)
	}
	return fmt.Sprintf("(%v %v %v)", a.Neg, a.Num, a.Den)
}

// sumText is a sum by what its fields hold.
func sumText(p api.Poly) string {
	s := ""
	for _, x := range p.Parts {
		s += number(x.Coef) + "*" + fmt.Sprint(x.Term) + " "
	}
	return s + number(p.Const)
}

// text is an atom by what its fields hold.
func text(a api.Atom) string {
	return fmt.Sprint(a.Kind, ": ", sumText(a.Poly), ", ", a.A, ", ", a.B)
}

// none is an atom of zero values.
func none() string { return text(api.Atom{}) }

// back is a fraction as the library has it.
func back(a api.Rat) *big.Rat {
	b, ok := new(big.Rat).SetString(rat.Text(a))
	if !ok {
		panic(number(a))
	}
	return b
}

func of(a *big.Rat) api.Rat { return r(a.RatString()) }

// power is 2^n.
func power(n uint) *big.Rat {
	return new(big.Rat).SetInt(new(big.Int).Lsh(big.NewInt(1), n))
}

// most is the greatest whole number there is, one is 1, least is 1 by most.
func most() *big.Rat  { return new(big.Rat).Sub(power(64*api.MaxLimbs), one()) }
func one() *big.Rat   { return big.NewRat(1, 1) }
func least() *big.Rat { return new(big.Rat).Inv(most()) }

// noNumbers are what no number may be.
func noNumbers() []api.Rat {
	one := []uint64{1}
	return []api.Rat{
		{}, {Num: one}, {Neg: true, Den: one}, {Num: one, Den: []uint64{0}}, {Num: []uint64{2}, Den: []uint64{2}},
		{Num: []uint64{3, 0}, Den: one}, {Num: slices.Repeat(one, api.MaxLimbs+1), Den: one}, {Den: []uint64{2}},
	}
}

// noSums are what no sum may be. But for that their first part would do in an
// atom.
func noSums() []api.Poly {
	list := []api.Poly{
		{},
		{Parts: sum("1", 2, "0").Parts},
		sum("0", 1, "0"),
		sum("1", 1, "0", 2, "5"),
		sum("1", -1, "0"),
		sum("1", math.MinInt, "0"),
		sum("1", -1, "1", 0, "0"),
		sum("1", 3, "1", 3, "0"),
		sum("1", 3, "1", 2, "0"),
		sum("1", 1, "1", 3, "1", 2, "0"),
		sum("1", 1, "1", 3, "1", 3, "0"),
	}
	for _, bad := range noNumbers() {
		p := sum("1", 1, "-1/2", 2, "1", 4, "3")
		p.Const = bad
		list = append(list, p, api.Poly{Const: bad})
		for k := range p.Parts {
			q := sum("1", 1, "-1/2", 2, "1", 4, "3")
			q.Parts[k].Coef = bad
			list = append(list, q)
		}
	}
	return list
}

// sums are some that may be.
func sums() []api.Poly {
	return []api.Poly{
		sum("0"), sum("1"), sum("-1"), sum("-7/2"), sum("9/4"), sum("1", 0, "0"), sum("-1", 0, "1"), sum("1", math.MaxInt, "2"),
		sum("2", 3, "-4"), sum("-2", 3, "-4"), sum("1/3", 3, "1", 5, "-4"), sum("-1/3", 3, "1", 5, "-4"), sum("-2", 3, "1", 5, "4"),
		sum("1", 2, "-3", 5, "1/2"), sum("2", 1, "3", 5, "1", 7, "1/2"), sum("-6/35", 1, "-14/15", 2, "22/21"),
		sum("1", 0, "2", 1, "3", 2, "4", 3, "5"), sum("-5", 0, "-4", 1, "-3", 2, "-2", 3, "-1"),
		{Parts: []api.Part{}, Const: api.Rat{Num: []uint64{}, Den: []uint64{1}}},
	}
}

// kinds are those of sums.
func kinds() []int { return []int{api.LeZero, api.LtZero, api.EqZero} }

// noKinds are none that Make takes.
func noKinds() []int {
	return []int{api.SameTerm, api.Holds, 0, -1, 7, 8, 1 << 8, 1<<32 + 1, math.MinInt, math.MaxInt}
}

// noAtoms are what no atom may be.
func noAtoms() []api.Atom {
	p := sum("1", 3, "2", 5, "0")
	list := []api.Atom{
		{}, {Kind: api.NeZero, Poly: p}, {Kind: api.NeZero, Poly: sum("0")}, {Kind: api.NeZero}, {Poly: p}, {Poly: sum("0")}, {A: 1, B: 2},
		{Kind: api.EqZero, Poly: sum("-1", 3, "2", 5, "0")}, {Kind: api.EqZero, Poly: sum("-1", 3, "0")},
		{Kind: api.SameTerm}, {Kind: api.SameTerm, A: 2, B: 1}, {Kind: api.SameTerm, A: 2, B: 2}, {Kind: api.SameTerm, A: -1, B: 2},
		{Kind: api.SameTerm, A: -1}, {Kind: api.SameTerm, A: -2, B: -1}, {Kind: api.SameTerm, A: 1}, {Kind: api.SameTerm, A: math.MinInt, B: math.MaxInt},
		{Kind: api.Holds, A: -1}, {Kind: api.Holds, A: math.MinInt}, {Kind: api.Holds, A: 1, B: 1}, {Kind: api.Holds, A: 1, B: 2}, {Kind: api.Holds, A: 1, B: -1}, {Kind: api.Holds, B: 1},
	}
	for _, kind := range kinds() {
		for _, q := range []api.Poly{p, sum("0"), sum("7")} {
			list = append(list, api.Atom{Kind: kind, Poly: q, A: 1}, api.Atom{Kind: kind, Poly: q, B: 1}, api.Atom{Kind: kind, Poly: q, A: 1, B: 2}, api.Atom{Kind: kind, Poly: q, A: -1}, api.Atom{Kind: kind, Poly: q, B: -1})
		}
		for _, first := range []string{"2", "-2", "1/2", "-1/2", "3/2", "18446744073709551617", "1/18446744073709551617"} {
			list = append(list, api.Atom{Kind: kind, Poly: sum(first, 3, "1", 5, "0")}, api.Atom{Kind: kind, Poly: sum(first, 3, "1")})
		}
		for _, q := range noSums() {
			list = append(list, api.Atom{Kind: kind, Poly: q})
		}
	}
	for _, kind := range noKinds() {
		for _, q := range []api.Poly{p, sum("0"), sum("1", 3, "0")} {
			list = append(list, api.Atom{Kind: kind, Poly: q}, api.Atom{Kind: kind, Poly: q, B: 1})
		}
	}
	for _, q := range []api.Poly{{Parts: p.Parts}, {Const: api.Rat{Neg: true}}, {Const: api.Rat{Num: []uint64{1}}}, {Const: api.Rat{Den: []uint64{1}}}, {Parts: []api.Part{{}}}} {
		list = append(list, api.Atom{Kind: api.SameTerm, A: 1, B: 2, Poly: q}, api.Atom{Kind: api.Holds, A: 1, Poly: q})
	}
	return list
}

// atomsOfSums are some that may be, of sums.
func atomsOfSums() (list []api.Atom) {
	for _, kind := range kinds() {
		for _, p := range []api.Poly{
			sum("0"), sum("1"), sum("-1"), sum("7"), sum("-7/3"), sum("1/2"), {Const: of(most())}, {Const: of(least())},
			sum("1", 0, "0"), sum("1", 0, "5/2"), sum("1", 3, "-1", 5, "1"), sum("1", 3, "-2/3", 5, "18446744073709551616", 6, "-1/7"),
			sum("1", math.MaxInt, "3"), sum("1", 0, "1", 1, "1", 2, "1", 3, "1"),
		} {
			list = append(list, api.Atom{Kind: kind, Poly: p})
		}
	}
	for _, kind := range []int{api.LeZero, api.LtZero} {
		for _, p := range []api.Poly{sum("-1", 0, "0"), sum("-1", 3, "2", 5, "-4"), sum("-1", 3, "-2/3", 5, "3"), sum("-1", math.MaxInt, "9")} {
			list = append(list, api.Atom{Kind: kind, Poly: p})
		}
	}
	return list
}

// otherAtoms are some that may be, of no sums.
func otherAtoms() []api.Atom {
	empty := api.Poly{Parts: []api.Part{}, Const: api.Rat{Num: []uint64{}, Den: []uint64{}}}
	return []api.Atom{
		{Kind: api.SameTerm, A: 1, B: 2}, {Kind: api.SameTerm, B: 1}, {Kind: api.SameTerm, A: math.MaxInt - 1, B: math.MaxInt}, {Kind: api.SameTerm, A: 1, B: 2, Poly: empty},
		{Kind: api.Holds}, {Kind: api.Holds, A: 3}, {Kind: api.Holds, A: math.MaxInt}, {Kind: api.Holds, A: 3, Poly: empty},
	}
}

// P9.1

func TestValid(t *testing.T) {
	for _, a := range append(atomsOfSums(), otherAtoms()...) {
		if !atom.Valid(a) {
			t.Errorf("P9.1: %.200s may be", text(a))
		}
	}
	for _, a := range noAtoms() {
		if atom.Valid(a) {
			t.Errorf("P9.1: %.200s may not be", text(a))
		}
	}
}

// formed is what Make has a sum as, by big fractions.
func formed(kind int, p api.Poly) string {
	by := new(big.Rat)
	if len(p.Parts) > 0 {
		by.Inv(back(p.Parts[0].Coef))
		if kind != api.EqZero {
			by.Abs(by)
		}
	} else if c := back(p.Const); c.Sign() != 0 {
		by.Abs(by.Inv(c))
	}
	s := ""
	for _, x := range p.Parts {
		s += fmt.Sprint(new(big.Rat).Mul(back(x.Coef), by).RatString(), "*", x.Term, " ")
	}
	return fmt.Sprint(kind, ": ", s, new(big.Rat).Mul(back(p.Const), by).RatString(), ", 0, 0")
}

func TestMake(t *testing.T) {
	for _, p := range sums() {
		for _, kind := range kinds() {
			a, not, e := atom.Make(kind, p)
			if want := formed(kind, p); e != api.OK || not || text(a) != want {
				t.Errorf("P9.1: Make(%d, %s): %s, %v, %d; want %s", kind, sumText(p), text(a), not, e, want)
			}
			if !atom.Valid(a) {
				t.Errorf("P9.1: Make(%d, %s) may not be", kind, sumText(p))
			}
		}
		a, not, e := atom.Make(api.NeZero, p)
		if want := formed(api.EqZero, p); e != api.OK || !not || text(a) != want {
			t.Errorf("P9.1: Make(NeZero, %s): %s, %v, %d; want that not %s", sumText(p), text(a), not, e, want)
		}
	}
}

func TestMakeExamples(t *testing.T) {
	for _, x := range []struct {
		kind int
		p    api.Poly
		want string
	}{
		{api.LeZero, sum("2", 3, "-4"), "1: 1*3 -2, 0, 0"},
		{api.LeZero, sum("-2", 3, "-4"), "1: -1*3 -2, 0, 0"},
		{api.LtZero, sum("-2/3", 3, "1", 5, "4"), "2: -1*3 3/2*5 6, 0, 0"},
		{api.EqZero, sum("-2", 3, "1", 5, "4"), "3: 1*3 -1/2*5 -2, 0, 0"},
		{api.LeZero, sum("-7"), "1: -1, 0, 0"},
		{api.LtZero, sum("7/2"), "2: 1, 0, 0"},
		{api.EqZero, sum("-5"), "3: -1, 0, 0"},
		{api.EqZero, sum("1/9"), "3: 1, 0, 0"},
		{api.LtZero, sum("0"), "2: 0, 0, 0"},
	} {
		if a, not, e := atom.Make(x.kind, x.p); e != api.OK || not || text(a) != x.want {
			t.Errorf("P9.1: Make(%d, %s): %s, %v, %d; want %s", x.kind, sumText(x.p), text(a), not, e, x.want)
		}
	}
}

// noMake wants an error, and nothing beside it.
func noMake(t *testing.T, what string, kind int, p api.Poly, want api.Errno) {
	t.Helper()
	if a, not, e := atom.Make(kind, p); e != want || not || text(a) != none() {
		t.Errorf("%s: Make(%d, %.100s): %.100s, %v, %d; want error %d", what, kind, sumText(p), text(a), not, e, want)
	}
}

func TestMakeOfNone(t *testing.T) {
	for _, p := range noSums() {
		for _, kind := range append([]int{api.LeZero, api.LtZero, api.EqZero, api.NeZero}, noKinds()...) {
			noMake(t, "P9.1: no sum", kind, p, api.ErrArg)
		}
	}
	tooBig := api.Poly{Parts: []api.Part{{Coef: of(least()), Term: 1}}, Const: of(most())}
	for _, kind := range noKinds() {
		for _, p := range append(sums(), tooBig) {
			noMake(t, "P9.1: no kind", kind, p, api.ErrArg)
		}
	}
}

// pair is a sum of two parts and a number.
func pair(c, d, k *big.Rat) api.Poly {
	return api.Poly{Parts: []api.Part{{Coef: of(c), Term: 1}, {Coef: of(d), Term: 2}}, Const: of(k)}
}

func TestMakeTooBig(t *testing.T) {
	minus := func(a *big.Rat) *big.Rat { return new(big.Rat).Neg(a) }
	half, two := big.NewRat(1, 2), big.NewRat(2, 1)
	for _, kind := range []int{api.LeZero, api.LtZero, api.EqZero, api.NeZero} {
		for _, p := range []api.Poly{
			pair(half, one(), most()), pair(half, most(), one()), pair(minus(half), most(), one()), pair(two, one(), least()), pair(two, least(), one()),
			pair(least(), one(), two), pair(least(), two, one()), pair(most(), one(), half), pair(minus(most()), half, one()), pair(least(), most(), most()),
		} {
			noMake(t, "P9.1: too big", kind, p, api.ErrBig)
		}
		for _, p := range []api.Poly{
			pair(one(), most(), most()), pair(minus(one()), least(), most()), pair(most(), minus(most()), one()), pair(minus(least()), one(), least()),
			pair(half, half, power(4094)), pair(power(4094), one(), power(4095)), pair(two, minus(one()), minus(most())),
		} {
			a, not, e := atom.Make(kind, p)
			form := kind
			if kind == api.NeZero {
				form = api.EqZero
			}
			if e != api.OK || text(a) != formed(form, p) || not != (kind == api.NeZero) || !atom.Valid(a) {
				t.Errorf("P9.1: as big as may be: Make(%d, %.100s): %.100s, %v, %d", kind, sumText(p), text(a), not, e)
			}
		}
	}
}

// TestMakeHasOneForm: sums that say the same are the same atom, others are not.
func TestMakeHasOneForm(t *testing.T) {
	p := sum("-6/35", 1, "-14/15", 2, "22/21")
	by := func(k string) api.Poly {
		q := sum("0")
		for _, x := range p.Parts {
			q.Parts = append(q.Parts, api.Part{Coef: of(new(big.Rat).Mul(back(x.Coef), back(r(k)))), Term: x.Term})
		}
		q.Const = of(new(big.Rat).Mul(back(p.Const), back(r(k))))
		return q
	}
	for _, kind := range kinds() {
		a, _, _ := atom.Make(kind, p)
		for _, k := range []string{"1", "2", "1/2", "35/6", "-1", "-7/3", "340282366920938463463374607431768211456"} {
			b, _, e := atom.Make(kind, by(k))
			want := kind == api.EqZero || k[0] != '-'
			if e != api.OK || atom.Same(a, b) != want || !atom.Same(b, b) {
				t.Errorf("P9.1: kind %d, by %s: %s and %s", kind, k, text(a), text(b))
			}
		}
		again, _, _ := atom.Make(kind, a.Poly)
		if !atom.Same(a, again) {
			t.Errorf("P9.1: kind %d: %s, of it %s", kind, text(a), text(again))
		}
	}
}

func TestEqual(t *testing.T) {
	for _, x := range [][2]int{{3, 5}, {5, 3}, {0, 1}, {1, 0}, {0, math.MaxInt}, {math.MaxInt, math.MaxInt - 1}} {
		a, e := atom.Equal(x[0], x[1])
		if want := fmt.Sprint("5: (false [] []), ", min(x[0], x[1]), ", ", max(x[0], x[1])); e != api.OK || text(a) != want || !atom.Valid(a) {
			t.Errorf("P9.1: Equal(%d, %d): %s, %d; want %s", x[0], x[1], text(a), e, want)
		}
	}
	for _, x := range [][2]int{{0, 0}, {3, 3}, {math.MaxInt, math.MaxInt}, {-1, 3}, {3, -1}, {-1, -1}, {-2, -1}, {-1, -2}, {0, -1}, {-1, 0}, {math.MinInt, 0}, {0, math.MinInt}, {math.MinInt, math.MaxInt}} {
		if a, e := atom.Equal(x[0], x[1]); e != api.ErrArg || text(a) != none() {
			t.Errorf("P9.1: Equal(%d, %d): %s, %d", x[0], x[1], text(a), e)
		}
	}
}

func TestBool(t *testing.T) {
	for _, x := range []int{0, 1, 7, math.MaxInt} {
		a, e := atom.Bool(x)
		if want := fmt.Sprint("6: (false [] []), ", x, ", 0"); e != api.OK || text(a) != want || !atom.Valid(a) {
			t.Errorf("P9.1: Bool(%d): %s, %d; want %s", x, text(a), e, want)
		}
	}
	for _, x := range []int{-1, -7, math.MinInt} {
		if a, e := atom.Bool(x); e != api.ErrArg || text(a) != none() {
			t.Errorf("P9.1: Bool(%d): %s, %d", x, text(a), e)
		}
	}
}
