package linear_test

import (
	"math/big"
	"slices"
	"testing"

	"theodolite/api"
	"theodolite/linear"
	"theodolite/rat"
)

// P8.2

func TestValue(t *testing.T) {
	at := func(id int) *big.Rat { return big.NewRat(int64(id%1000)*3-4, 7) }
	for _, p := range sums() {
		want := back(p.Const)
		for _, x := range p.Parts {
			want.Add(want, new(big.Rat).Mul(back(x.Coef), at(x.Term)))
		}
		got, e := linear.Value(p, func(id int) api.Rat { return of(at(id)) })
		if e != api.OK || rat.Text(got) != want.RatString() {
			t.Errorf("P8.2: Value(%s): %s, %d; want %s", text(p), number(got), e, want.RatString())
		}
	}
}

// noValue wants an error, and no number beside it.
func noValue(t *testing.T, what string, p api.Poly, of func(id int) api.Rat, want api.Errno) {
	t.Helper()
	if got, e := linear.Value(p, of); e != want || number(got) != number(api.Rat{}) {
		t.Errorf("%s: %s, %d; want error %d", what, number(got), e, want)
	}
}

func TestValueOfNone(t *testing.T) {
	one := func(id int) api.Rat { return rat.Of(1, 1) }
	for _, p := range noSums() {
		noValue(t, "P8.2: no sum", p, one, api.ErrArg)
		noValue(t, "P8.2: no sum, no function", p, nil, api.ErrArg)
	}
	for _, p := range sums() {
		noValue(t, "P8.2: no function", p, nil, api.ErrArg)
	}
	for _, bad := range noNumbers() {
		for at := range 4 {
			p := sum("1", 0, "-2", 1, "1/3", 2, "4", 3, "1")
			noValue(t, "P8.2: no number is told", p, func(id int) api.Rat {
				if id == at {
					return bad
				}
				return rat.Of(id, 3)
			}, api.ErrArg)
		}
	}
	noValue(t, "rule 1: a function that panics", sum("1", 3, "0"), func(id int) api.Rat { panic("none") }, api.ErrArg)
	if got, e := linear.Value(sum("5/2"), func(id int) api.Rat { panic("asked") }); e != api.OK || rat.Text(got) != "5/2" {
		t.Errorf("P8.2: without parts nothing is asked: %s, %d", number(got), e)
	}
}

func TestValueTooBig(t *testing.T) {
	huge := most()
	told := func(list ...*big.Rat) func(id int) api.Rat {
		return func(id int) api.Rat {
			if list[id] == nil {
				return api.Rat{}
			}
			return of(list[id])
		}
	}
	one, minus := power(0), new(big.Rat).Neg(power(0))
	two := sum("1", 0, "1", 1, "0")
	noValue(t, "P8.2: a part is too big", sum("2", 0, "0"), told(huge), api.ErrBig)
	noValue(t, "P8.2: a sum is too big", sum("1", 0, "1"), told(huge), api.ErrBig)
	noValue(t, "P8.2: a later sum is too big", two, told(huge, one, minus), api.ErrBig)
	noValue(t, "P8.2: part by part", sum("1", 0, "1", 1, "1", 2, "0"), told(huge, one, minus), api.ErrBig)
	noValue(t, "P8.2: Const first", sum("1", 0, "-1", 1, "1"), told(huge, one), api.ErrBig)
	noValue(t, "P8.2: no number behind what is too big", sum("2", 0, "1", 1, "0"), told(huge, nil), api.ErrArg)
	for _, c := range []struct {
		p    api.Poly
		list []*big.Rat
		want *big.Rat
	}{
		{sum("1", 0, "1", 1, "1", 2, "0"), []*big.Rat{huge, minus, one}, huge},
		{sum("1", 0, "1", 1, "-1"), []*big.Rat{huge, one}, huge},
		{sum("-1", 0, "2", 1, "1"), []*big.Rat{one, power(4000)}, power(4001)},
	} {
		if got, e := linear.Value(c.p, told(c.list...)); e != api.OK || rat.Text(got) != c.want.RatString() {
			t.Errorf("P8.2: as big as may be: %.50s, %d", number(got), e)
		}
	}
}

func TestValueAsksOfParts(t *testing.T) {
	var asked []int
	linear.Value(sum("1", 2, "1", 5, "1", 9, "0"), func(id int) api.Rat {
		asked = append(asked, id)
		return rat.Of(0, 1)
	})
	slices.Sort(asked)
	if got := slices.Compact(asked); !slices.Equal(got, []int{2, 5, 9}) {
		t.Errorf("P8.2: asked of %v", got)
	}
}
