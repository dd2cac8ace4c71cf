package decimal_test

import (
	"math"
	"math/big"
	"slices"

	"theodolite/api"
)

// power is a number to another.
func power(n int64, to int) *big.Int {
	return new(big.Int).Exp(big.NewInt(n), big.NewInt(int64(to)), nil)
}

// most is the greatest size that a number may have.
func most() *big.Int { return new(big.Int).Sub(power(2, 64*api.MaxLimbs), big.NewInt(1)) }

// rows are the limbs of the size of a number of the library.
func rows(z *big.Int) []uint64 {
	var a []uint64
	low := new(big.Int).SetUint64(math.MaxUint64)
	for size := new(big.Int).Abs(z); size.Sign() > 0; size.Rsh(size, 64) {
		a = append(a, new(big.Int).And(size, low).Uint64())
	}
	return a
}

// of is a fraction of the library as one of package api.
func of(x *big.Rat) api.Rat {
	return api.Rat{Neg: x.Sign() < 0, Num: rows(x.Num()), Den: rows(x.Denom())}
}

// by is a fraction of two numbers of the library.
func by(n, d *big.Int) *big.Rat { return new(big.Rat).SetFrac(n, d) }

// small is a fraction of the library.
func small(n, d int64) *big.Rat { return big.NewRat(n, d) }

// equal tells whether two are the same, nil and an empty list too.
func equal(a, b api.Rat) bool {
	return a.Neg == b.Neg && slices.Equal(a.Num, b.Num) && slices.Equal(a.Den, b.Den)
}

// fits tells whether a fraction of the library has no more limbs than it may.
func fits(x *big.Rat) bool {
	return x.Num().CmpAbs(most()) <= 0 && x.Denom().CmpAbs(most()) <= 0
}

// right tells whether an answer is what the library works out, or ErrBig where
// that has too many limbs.
func right(got api.Rat, e api.Errno, want *big.Rat) bool {
	if !fits(want) {
		return e == api.ErrBig && equal(got, api.Rat{})
	}
	return e == api.OK && equal(got, of(want))
}

// placesOf is how many digits behind the point a fraction needs; false, if no
// number of them is enough.
func placesOf(x *big.Rat) (int, bool) {
	rest := new(big.Int).Set(x.Denom())
	var most int
	for _, prime := range []int64{2, 5} {
		n := 0
		for p := big.NewInt(prime); new(big.Int).Rem(rest, p).Sign() == 0; n++ {
			rest.Quo(rest, p)
		}
		most = max(most, n)
	}
	return most, rest.Cmp(big.NewInt(1)) == 0
}

// long are fractions not below 0, of long numbers, most of them at the edges of
// what a number may be, some beyond.
func long() []*big.Rat {
	tall, mixed := most(), big.NewInt(1)
	for range 60 {
		mixed = new(big.Int).Add(new(big.Int).Mul(mixed, big.NewInt(0x5deece66d1234577)), big.NewInt(11))
	}
	var list []*big.Rat
	for _, n := range []*big.Int{
		big.NewInt(1), big.NewInt(3), big.NewInt(10), mixed, tall, new(big.Int).Sub(tall, big.NewInt(2)), new(big.Int).Add(tall, big.NewInt(1)),
		power(10, 1233), power(2, 4095), power(5, 1764), power(5, 1765), power(2, 64),
	} {
		for _, d := range []*big.Int{
			big.NewInt(1), power(2, 64), power(10, 18), power(10, 19), power(10, 20), power(10, 38), power(10, 1233), power(10, 1234),
			power(2, 4094), power(2, 4095), power(2, 4096), power(5, 1763), power(5, 1764), power(5, 1765),
			new(big.Int).Mul(power(2, 2000), power(5, 902)), new(big.Int).Mul(power(2, 2001), power(5, 902)), new(big.Int).Mul(power(2, 3), power(5, 1760)),
		} {
			list = append(list, by(n, d))
		}
	}
	return list
}

// none are those that are not Valid.
func none() []api.Rat {
	one, tooLong := []uint64{1}, slices.Repeat([]uint64{math.MaxUint64}, api.MaxLimbs+1)
	return []api.Rat{
		{},
		{Neg: true},
		{Num: one},
		{Neg: true, Den: one},
		{Den: []uint64{2}},
		{Den: []uint64{0}},
		{Num: []uint64{2}, Den: []uint64{2}},
		{Num: []uint64{2}, Den: []uint64{4}},
		{Neg: true, Num: []uint64{15}, Den: []uint64{35}},
		{Num: []uint64{0}, Den: one},
		{Num: []uint64{1, 0}, Den: one},
		{Num: one, Den: []uint64{2, 0}},
		{Num: one, Den: []uint64{0}},
		{Num: tooLong, Den: one},
		{Num: one, Den: tooLong},
		{Num: one, Den: append(make([]uint64, 64), 1)},
		{Num: append(make([]uint64, 64), 1), Den: one},
		{Num: make([]uint64, 64), Den: one},
	}
}
