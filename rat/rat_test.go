package rat_test

import (
	"math"
	"math/big"
	"slices"
	"testing"

	"theodolite/api"
	"theodolite/rat"
)

// power is 2^n.
func power(n uint) *big.Int { return new(big.Int).Lsh(big.NewInt(1), n) }

// most is the greatest size that a number may have.
func most() *big.Int { return new(big.Int).Sub(power(64*api.MaxLimbs), big.NewInt(1)) }

// limbs are those of the size of a number of the library.
func limbs(z *big.Int) []uint64 {
	var a []uint64
	low := new(big.Int).SetUint64(math.MaxUint64)
	for size := new(big.Int).Abs(z); size.Sign() > 0; size.Rsh(size, 64) {
		a = append(a, new(big.Int).And(size, low).Uint64())
	}
	return a
}

// of is a fraction of the library as one of package api.
func of(x *big.Rat) api.Rat {
	return api.Rat{Neg: x.Sign() < 0, Num: limbs(x.Num()), Den: limbs(x.Denom())}
}

// by is a fraction of two numbers of the library.
func by(n, d *big.Int) *big.Rat { return new(big.Rat).SetFrac(n, d) }

// small is a fraction of the library.
func small(n, d int64) *big.Rat { return big.NewRat(n, d) }

// sizes are numbers from 0 on, some long, some that have much in common.
func sizes() []*big.Int {
	var list []*big.Int
	for _, n := range []int64{0, 1, 2, 3, 4, 6, 7, 12, 1e18, math.MaxInt64} {
		list = append(list, big.NewInt(n))
	}
	mixed := big.NewInt(1)
	for range 4 {
		for range 8 {
			mixed = new(big.Int).Add(new(big.Int).Mul(mixed, big.NewInt(0x5deece66d1234577)), big.NewInt(11))
		}
		list = append(list, mixed, new(big.Int).Mul(mixed, big.NewInt(12)))
	}
	return append(list, power(64), power(2048), new(big.Int).Sub(power(2048), big.NewInt(1)), power(4095), most())
}

// numbers are fractions of the sizes, of either sign.
func numbers() []*big.Rat {
	seen := map[string]bool{}
	var list []*big.Rat
	all := sizes()
	for i, n := range all {
		for k, d := range all {
			if d.Sign() == 0 || i > 5 && k > 5 && (i+k)%3 != 0 {
				continue
			}
			x := by(n, d)
			if (i+2*k)%3 == 0 {
				x.Neg(x)
			}
			if !seen[x.String()] {
				seen[x.String()] = true
				list = append(list, x)
			}
		}
	}
	return append(list, small(-1, 2), small(-1, 1), small(-7, 2), small(1, 2))
}

// none are those that are not Valid.
func none() []api.Rat {
	one, long := []uint64{1}, slices.Repeat([]uint64{math.MaxUint64}, api.MaxLimbs+1)
	return []api.Rat{
		{},
		{Neg: true},
		{Num: one},
		{Neg: true, Num: one},
		{Neg: true, Den: one},
		{Num: []uint64{}, Den: []uint64{}},
		{Den: []uint64{2}},
		{Den: []uint64{0}},
		{Den: []uint64{0, 1}},
		{Num: []uint64{2}, Den: []uint64{2}},
		{Num: []uint64{2}, Den: []uint64{4}},
		{Neg: true, Num: []uint64{15}, Den: []uint64{35}},
		{Num: []uint64{0, 1}, Den: []uint64{0, 3}},
		{Num: limbs(new(big.Int).Mul(power(4000), big.NewInt(3))), Den: []uint64{9}},
		{Num: limbs(most()), Den: limbs(most())},
		{Num: []uint64{0}, Den: one},
		{Num: []uint64{1, 0}, Den: one},
		{Num: one, Den: []uint64{1, 0}},
		{Num: one, Den: []uint64{0}},
		{Num: long, Den: one},
		{Num: one, Den: long},
		{Num: append(long[:64:64], 0), Den: one},
		{Num: one, Den: append(long[:64:64], 0)},
		{Num: make([]uint64, 64), Den: one},
	}
}

// equal tells whether two are the same, nil and an empty list too.
func equal(a, b api.Rat) bool {
	return a.Neg == b.Neg && slices.Equal(a.Num, b.Num) && slices.Equal(a.Den, b.Den)
}

// right tells whether an answer is what the library works out, or ErrBig where
// that has too many limbs.
func right(got api.Rat, e api.Errno, want *big.Rat) bool {
	if want.Num().CmpAbs(most()) > 0 || want.Denom().CmpAbs(most()) > 0 {
		return e == api.ErrBig && equal(got, api.Rat{})
	}
	return e == api.OK && equal(got, of(want))
}

// pairs asks check of two of the numbers, of the many long ones not of all.
func pairs(check func(x, y *big.Rat, a, b api.Rat)) {
	list := numbers()
	for i, x := range list {
		for k, y := range list {
			if i < 40 || k < 40 || (i+k)%5 == 0 {
				check(x, y, of(x), of(y))
			}
		}
	}
}

// P3.1

func TestValid(t *testing.T) {
	for _, x := range numbers() {
		if !rat.Valid(of(x)) {
			t.Errorf("%v is a fraction", x)
		}
	}
	if !rat.Valid(api.Rat{Num: []uint64{}, Den: []uint64{1}}) {
		t.Error("0, of an empty list, is a fraction")
	}
	for _, a := range none() {
		if rat.Valid(a) {
			t.Errorf("%v is no fraction", a)
		}
	}
}

func TestNew(t *testing.T) {
	all := sizes()
	for _, n := range all {
		for _, d := range all {
			for _, sign := range [][2]bool{{false, false}, {true, false}, {false, true}, {true, true}} {
				num := api.Int{Neg: sign[0] && n.Sign() > 0, N: limbs(n)}
				den := api.Int{Neg: sign[1] && d.Sign() > 0, N: limbs(d)}
				got, e := rat.New(num, den)
				if d.Sign() == 0 {
					if e != api.ErrArg || !equal(got, api.Rat{}) {
						t.Fatalf("New(%v, 0): %v, %d", n, got, e)
					}
					continue
				}
				want := by(n, d)
				if num.Neg != den.Neg {
					want.Neg(want)
				}
				if !right(got, e, want) {
					t.Fatalf("New(%v, %v): %v, %d, not %v", num, den, got, e, want)
				}
			}
		}
	}
}

func TestNewOfNoNumbers(t *testing.T) {
	one := api.Int{N: []uint64{1}}
	long := slices.Repeat([]uint64{1}, api.MaxLimbs+1)
	for _, bad := range []api.Int{{Neg: true}, {N: []uint64{0}}, {N: []uint64{2, 0}}, {N: long}, {Neg: true, N: long}, {Neg: true, N: []uint64{0}}} {
		for _, pair := range [][2]api.Int{{bad, one}, {one, bad}, {bad, bad}, {bad, {}}, {{}, bad}} {
			if got, e := rat.New(pair[0], pair[1]); e != api.ErrArg || !equal(got, api.Rat{}) {
				t.Errorf("New(%v, %v): %v, %d", pair[0], pair[1], got, e)
			}
		}
	}
}

func TestOf(t *testing.T) {
	ints := []int{0, 1, -1, 2, -2, 3, 6, -6, 7, 12, 1e18, math.MaxInt, math.MaxInt - 1, math.MinInt, math.MinInt + 1, math.MinInt / 2}
	for _, n := range ints {
		for _, d := range ints {
			want := new(big.Rat)
			if d != 0 {
				want = small(int64(n), int64(d))
			}
			if got := rat.Of(n, d); !equal(got, of(want)) {
				t.Errorf("Of(%d, %d): %v, not %v", n, d, got, want)
			}
		}
	}
}

func TestCmpAndSign(t *testing.T) {
	pairs(func(x, y *big.Rat, a, b api.Rat) {
		if got := rat.Cmp(a, b); got != x.Cmp(y) {
			t.Fatalf("Cmp(%v, %v): %d", x, y, got)
		}
	})
	for _, x := range numbers() {
		if got := rat.Sign(of(x)); got != x.Sign() {
			t.Errorf("Sign(%v): %d", x, got)
		}
		if got := rat.Cmp(of(x), of(x)); got != 0 {
			t.Errorf("Cmp of %v and itself: %d", x, got)
		}
		for _, a := range none() {
			if got := []int{rat.Cmp(a, of(x)), rat.Cmp(of(x), a), rat.Sign(a), rat.Cmp(a, a)}; !slices.Equal(got, make([]int, 4)) {
				t.Errorf("Cmp and Sign with %v: %v", a, got)
			}
		}
	}
}

// TestCmpOfNearlyOne has two whose difference lies far below what any limb of
// either tells: (m-1)/m and (m-2)/(m-1).
func TestCmpOfNearlyOne(t *testing.T) {
	m, one := most(), big.NewInt(1)
	less := new(big.Int).Sub(m, one)
	a, b := of(by(less, m)), of(by(new(big.Int).Sub(less, one), less))
	if got := []int{rat.Cmp(a, b), rat.Cmp(b, a), rat.Cmp(rat.Neg(a), rat.Neg(b)), rat.Cmp(rat.Neg(b), rat.Neg(a))}; !slices.Equal(got, []int{1, -1, -1, 1}) {
		t.Errorf("Cmp of two that are nearly 1: %v", got)
	}
}

func TestNeg(t *testing.T) {
	for _, x := range numbers() {
		if got := rat.Neg(of(x)); !equal(got, of(new(big.Rat).Neg(x))) {
			t.Errorf("Neg(%v): %v", x, got)
		}
	}
	for _, a := range none() {
		if got := rat.Neg(a); !equal(got, api.Rat{}) {
			t.Errorf("Neg(%v), which is none: %v", a, got)
		}
	}
}

func TestSums(t *testing.T) {
	pairs(func(x, y *big.Rat, a, b api.Rat) {
		if got, e := rat.Add(a, b); !right(got, e, new(big.Rat).Add(x, y)) {
			t.Fatalf("Add(%v, %v): %v, %d", x, y, got, e)
		}
		if got, e := rat.Sub(a, b); !right(got, e, new(big.Rat).Sub(x, y)) {
			t.Fatalf("Sub(%v, %v): %v, %d", x, y, got, e)
		}
	})
}

func TestProducts(t *testing.T) {
	pairs(func(x, y *big.Rat, a, b api.Rat) {
		if got, e := rat.Mul(a, b); !right(got, e, new(big.Rat).Mul(x, y)) {
			t.Fatalf("Mul(%v, %v): %v, %d", x, y, got, e)
		}
		got, e := rat.Quo(a, b)
		if y.Sign() == 0 {
			if e != api.ErrArg || !equal(got, api.Rat{}) {
				t.Fatalf("Quo(%v, 0): %v, %d", x, got, e)
			}
		} else if !right(got, e, new(big.Rat).Quo(x, y)) {
			t.Fatalf("Quo(%v, %v): %v, %d", x, y, got, e)
		}
	})
}

// TestAnswersThatFit has answers at the limit, and such as are short though the
// steps on the way to them are not.
func TestAnswersThatFit(t *testing.T) {
	m, one := most(), big.NewInt(1)
	whole := func(z *big.Int) *big.Rat { return new(big.Rat).SetInt(z) }
	less := whole(new(big.Int).Sub(m, one))
	long, other := power(64*40), new(big.Int).Add(power(64*40), one)
	for _, c := range []struct {
		name string
		call func(a, b api.Rat) (api.Rat, api.Errno)
		x, y *big.Rat
		want *big.Rat
	}{
		{"Add", rat.Add, less, small(1, 1), whole(m)},
		{"Add", rat.Add, whole(m), small(1, 1), whole(power(4096))},
		{"Add", rat.Add, by(m, big.NewInt(2)), small(1, 2), whole(power(4095))},
		{"Add", rat.Add, by(m, power(4095)), by(one, power(4095)), small(2, 1)},
		{"Add", rat.Add, by(one, m), by(new(big.Int).Sub(m, one), m), small(1, 1)},
		{"Add", rat.Add, by(one, long), by(one, other), nil},
		{"Sub", rat.Sub, by(m, big.NewInt(2)), small(-1, 2), whole(power(4095))},
		{"Sub", rat.Sub, by(m, long), by(m, long), small(0, 1)},
		{"Sub", rat.Sub, whole(new(big.Int).Neg(m)), small(1, 1), nil},
		{"Mul", rat.Mul, whole(power(4095)), small(2, 1), nil},
		{"Mul", rat.Mul, whole(m), small(2, 1), nil},
		{"Mul", rat.Mul, by(m, power(4095)), by(power(4095), m), small(1, 1)},
		{"Mul", rat.Mul, by(m, big.NewInt(4)), small(4, 3), whole(new(big.Int).Div(m, big.NewInt(3)))},
		{"Mul", rat.Mul, by(one, power(4095)), small(1, 2), nil},
		{"Mul", rat.Mul, by(one, power(4095)), small(2, 1), by(one, power(4094))},
		{"Quo", rat.Quo, whole(m), whole(m), small(1, 1)},
		{"Quo", rat.Quo, by(m, power(4095)), by(m, power(4094)), small(1, 2)},
		{"Quo", rat.Quo, whole(long), by(one, long), nil},
	} {
		got, e := c.call(of(c.x), of(c.y))
		if c.want == nil {
			if e != api.ErrBig || !equal(got, api.Rat{}) {
				t.Errorf("%s(%v, %v), which has no room: %v, %d", c.name, c.x, c.y, got, e)
			}
		} else if !right(got, e, c.want) {
			t.Errorf("%s(%v, %v): %v, %d, not %v", c.name, c.x, c.y, got, e, c.want)
		}
	}
}

func TestNoFractionIsRefused(t *testing.T) {
	for name, call := range map[string]func(a, b api.Rat) (api.Rat, api.Errno){
		"Add": rat.Add, "Sub": rat.Sub, "Mul": rat.Mul, "Quo": rat.Quo, "Between": rat.Between,
	} {
		for _, bad := range none() {
			for _, good := range []api.Rat{of(small(0, 1)), of(small(-5, 7)), of(small(1, 1)), of(by(most(), big.NewInt(1))), bad} {
				if got, e := call(bad, good); e != api.ErrArg || !equal(got, api.Rat{}) {
					t.Errorf("%s(%v, %v): %v, %d", name, bad, good, got, e)
				}
				if got, e := call(good, bad); e != api.ErrArg || !equal(got, api.Rat{}) {
					t.Errorf("%s(%v, %v): %v, %d", name, good, bad, got, e)
				}
			}
		}
	}
}

// floorOf is the greatest whole number not above one.
func floorOf(x *big.Rat) *big.Int { return new(big.Int).Div(x.Num(), x.Denom()) }

func TestFloor(t *testing.T) {
	for _, x := range numbers() {
		for _, y := range []*big.Rat{x, new(big.Rat).Neg(x)} {
			want := floorOf(y)
			got := rat.Floor(of(y))
			if got.Neg != (want.Sign() < 0) || !slices.Equal(got.N, limbs(want)) {
				t.Errorf("Floor(%v): %v, not %v", y, got, want)
			}
		}
	}
	for _, a := range none() {
		if got := rat.Floor(a); got.Neg || len(got.N) != 0 {
			t.Errorf("Floor(%v), which is none: %v", a, got)
		}
	}
}
