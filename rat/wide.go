package rat

import (
	"theodolite/api"
	"theodolite/limbs"
)

// What stands here works on fractions in lowest terms whatever their size: an
// answer may fit though a step on the way to it does not, so that the limit is
// looked at in the end only (bounded).

// one is the number 1.
func one() []uint64 { return []uint64{1} }

// top is what stands above the line, with its sign.
func top(a api.Rat) api.Int { return api.Int{Neg: a.Neg, N: a.Num} }

// signed is a fraction with a sign, which 0 does not have.
func signed(neg bool, num, den []uint64) api.Rat {
	return api.Rat{Neg: neg && len(num) > 0, Num: num, Den: den}
}

// bounded is a fraction, unless it has too many limbs.
func bounded(a api.Rat) (api.Rat, api.Errno) {
	if max(len(a.Num), len(a.Den)) > api.MaxLimbs {
		return api.Rat{}, api.ErrBig
	}
	return a, api.OK
}

// lowest is a fraction of any two numbers, the second one not 0.
func lowest(neg bool, num, den []uint64) api.Rat {
	num, den = limbs.Lowest(num, den)
	return signed(neg, num, den)
}

// times is the product of two numbers.
func times(a, b []uint64) []uint64 {
	product, _ := limbs.Mul(a, b, len(a)+len(b))
	return product
}

// without is a number with a divisor of it taken out.
func without(a, divisor []uint64) []uint64 {
	rest, _ := limbs.DivMod(a, divisor)
	return rest
}

// product multiplies two. What stands above the one line and below the other is
// taken out first: there is nothing more to take out then.
func product(a, b api.Rat) api.Rat {
	x, y := limbs.Gcd(a.Num, b.Den), limbs.Gcd(b.Num, a.Den)
	num := times(without(a.Num, x), without(b.Num, y))
	den := times(without(a.Den, y), without(b.Den, x))
	return signed(a.Neg != b.Neg, num, den)
}

// sum adds two. What both lines have in common is taken out first: only that
// can have divisors in common with the sum above the line (Knuth, The Art of
// Computer Programming, 4.5.1).
func sum(a, b api.Rat) api.Rat {
	common := limbs.Gcd(a.Den, b.Den)
	ofA, ofB := without(a.Den, common), without(b.Den, common)
	neg, num := signedSum(a.Neg, times(a.Num, ofB), b.Neg, times(b.Num, ofA))
	by := limbs.Gcd(num, common)
	return signed(neg, without(num, by), times(without(a.Den, by), ofB))
}

// signedSum adds two numbers with signs.
func signedSum(negA bool, a []uint64, negB bool, b []uint64) (neg bool, size []uint64) {
	switch {
	case negA == negB:
		return negA, limbs.Add(a, b)
	case limbs.Cmp(a, b) < 0:
		return negB, limbs.Sub(b, a)
	}
	return negA, limbs.Sub(a, b)
}
