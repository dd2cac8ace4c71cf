package limbs

import (
	"math"
	"math/bits"
	"slices"
)

// DivMod divides one by another, which is not 0.
func DivMod(a, b []uint64) (q, r []uint64) {
	switch {
	case Cmp(a, b) < 0:
		return nil, slices.Clone(a)
	case len(b) == 1:
		q = slices.Clone(a)
		r = []uint64{DivideWord(q, b[0])}
		return Trim(q), Trim(r)
	}
	return divideLong(a, b)
}

// DivideWord leaves in a what a by d is, not trimmed, and answers the rest.
func DivideWord(a []uint64, d uint64) (rest uint64) {
	for i := len(a) - 1; i >= 0; i-- {
		a[i], rest = bits.Div64(rest, a[i], d)
	}
	return rest
}

// divideLong is division by two limbs or more, of a number that is not below
// them (Knuth, The Art of Computer Programming, 4.3.1, algorithm D). Both are
// shifted until the divisor's highest bit is 1: a quotient limb that is
// guessed from the highest limbs is then off by little.
func divideLong(a, b []uint64) (q, r []uint64) {
	shift := bits.LeadingZeros64(b[len(b)-1])
	rest := ShiftUp(a, shift)
	by := ShiftUp(b, shift)[:len(b)]
	q = make([]uint64, len(a)-len(b)+1)
	for i := len(q) - 1; i >= 0; i-- {
		q[i] = nextLimb(rest[i:i+len(by)+1], by)
	}
	return Trim(q), Trim(ShiftDown(rest[:len(by)], shift))
}

// nextLimb is rest by by, which is one limb; rest, a limb longer than by,
// keeps what is left in its other limbs (the last one is not looked at again).
func nextLimb(rest, by []uint64) uint64 {
	n := len(by)
	guess := guessLimb(rest, by)
	if takeAway(rest[:n], by, guess) > rest[n] {
		giveBack(rest[:n], by)
		guess--
	}
	return guess
}

// guessLimb is what nextLimb seeks, or one more: it looks at three limbs of
// rest and two of by only.
func guessLimb(rest, by []uint64) uint64 {
	n := len(by)
	if rest[n] == by[n-1] {
		return math.MaxUint64
	}
	guess, left := bits.Div64(rest[n], rest[n-1], by[n-1])
	for {
		high, low := bits.Mul64(guess, by[n-2])
		if high < left || high == left && low <= rest[n-2] {
			return guess
		}
		guess--
		var over uint64
		left, over = bits.Add64(left, by[n-1], 0)
		if over != 0 {
			return guess
		}
	}
}

// takeAway takes by, so many times, from rest, and answers what it borrowed.
func takeAway(rest, by []uint64, times uint64) (borrow uint64) {
	for i, y := range by {
		low, high := MulAdd(times, y, borrow, 0)
		rest[i], borrow = bits.Sub64(rest[i], low, 0)
		borrow += high
	}
	return borrow
}

// giveBack adds by to rest. What runs over is left out: it makes good what
// takeAway borrowed.
func giveBack(rest, by []uint64) {
	var carry uint64
	for i, y := range by {
		rest[i], carry = bits.Add64(rest[i], y, carry)
	}
}
