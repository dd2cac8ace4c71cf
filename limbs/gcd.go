package limbs

import (
	"math/bits"
	"slices"
)

// Gcd is the greatest divisor of two. It is Euclid's way, with many steps taken
// at a time (Lehmer): the highest bits of both tell what the next quotients
// are, and the steps that are sure are then done to all limbs at once.
func Gcd(a, b []uint64) []uint64 {
	x, y := a, b
	if Cmp(x, y) < 0 {
		x, y = y, x
	}
	for len(y) > 1 {
		if s := sureSteps(x, y); s.b != 0 {
			x, y = s.done(x, y)
			continue
		}
		_, rest := DivMod(x, y)
		x, y = y, rest
	}
	if len(y) == 0 {
		return slices.Clone(x)
	}
	return []uint64{wordGcd(y[0], modWord(x, y[0]))}
}

// Lowest is two, the second one not 0, with their greatest divisor taken out.
func Lowest(a, b []uint64) (x, y []uint64) {
	by := Gcd(a, b)
	x, _ = DivMod(a, by)
	y, _ = DivMod(b, by)
	return x, y
}

// steps are some steps of Euclid's in a row. Of an even number of them x
// becomes a x - b y, and y becomes d y - c x; of an odd number b y - a x, and
// c x - d y. b is 0 where there is no step.
type steps struct {
	a, b, c, d uint64
	odd        bool
}

// done is what the steps make of two.
func (s steps) done(x, y []uint64) (next, last []uint64) {
	if s.odd {
		return lessTimes(y, s.b, x, s.a), lessTimes(x, s.c, y, s.d)
	}
	return lessTimes(x, s.a, y, s.b), lessTimes(y, s.d, x, s.c)
}

// sureSteps are the steps that the highest bits tell, of x with two limbs at
// least and y not above it. What lies below those bits adds less than 1 to
// either, and so turns a rest by less than its d (c is never above d): a step
// is sure if its rest is at least d, and lies below the one ahead of it by both
// their d (Collins' rule). Nothing runs over: a step's d times the rest ahead
// of it is never above the first high.
func sureSteps(x, y []uint64) steps {
	high, low := highest(x, y)
	s := steps{a: 1, d: 1}
	for low != 0 {
		quotient, rest := high/low, high%low
		next := steps{s.c, s.d, s.a + quotient*s.c, s.b + quotient*s.d, !s.odd}
		if rest < next.d || low-rest < s.d+next.d {
			break
		}
		s, high, low = next, low, rest
	}
	return s
}

// highest is the highest 64 bits of x, and those of y at the same place.
func highest(x, y []uint64) (high, low uint64) {
	last := len(x) - 1
	up := bits.LeadingZeros64(x[last])
	high = x[last]<<up | x[last-1]>>(Bits-up)
	low = limb(y, last)<<up | limb(y, last-1)>>(Bits-up)
	return high, low
}

// lessTimes is p times x less q times y, which is neither below 0 nor longer
// than both: what would stand above the last limb takes itself away.
func lessTimes(x []uint64, p uint64, y []uint64, q uint64) []uint64 {
	rest := make([]uint64, max(len(x), len(y)))
	var more, less, carry, lent, borrow uint64
	for i := range rest {
		more, carry = MulAdd(p, limb(x, i), carry, 0)
		less, lent = MulAdd(q, limb(y, i), lent, 0)
		rest[i], borrow = bits.Sub64(more, less, borrow)
	}
	return Trim(rest)
}

// modWord is the rest of one by d.
func modWord(a []uint64, d uint64) (rest uint64) {
	for i := len(a) - 1; i >= 0; i-- {
		_, rest = bits.Div64(rest, a[i], d)
	}
	return rest
}

// wordGcd is the greatest divisor of two limbs.
func wordGcd(x, y uint64) uint64 {
	for y != 0 {
		x, y = y, x%y
	}
	return x
}
