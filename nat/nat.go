// Package nat is numbers from 0 on: see DOC.md, chapter 1.
package nat

import (
	"math/bits"

	"theodolite/api"
	"theodolite/limbs"
)

// Valid tells whether one is a number.
func Valid(a []uint64) bool {
	return len(a) == 0 || len(a) <= api.MaxLimbs && a[len(a)-1] != 0
}

// Cmp compares two.
func Cmp(a, b []uint64) int {
	if !Valid(a) || !Valid(b) {
		return 0
	}
	return limbs.Cmp(a, b)
}

// Add adds two.
func Add(a, b []uint64) ([]uint64, api.Errno) {
	if !Valid(a) || !Valid(b) {
		return nil, api.ErrArg
	}
	sum := limbs.Add(a, b)
	if len(sum) > api.MaxLimbs {
		return nil, api.ErrBig
	}
	return sum, api.OK
}

// Sub takes one from another.
func Sub(a, b []uint64) ([]uint64, api.Errno) {
	if !Valid(a) || !Valid(b) || limbs.Cmp(a, b) < 0 {
		return nil, api.ErrArg
	}
	return limbs.Sub(a, b), api.OK
}

// Mul multiplies two.
func Mul(a, b []uint64) ([]uint64, api.Errno) {
	if !Valid(a) || !Valid(b) {
		return nil, api.ErrArg
	}
	product, fits := limbs.Mul(a, b, api.MaxLimbs)
	if !fits {
		return nil, api.ErrBig
	}
	return product, api.OK
}

// DivMod divides one by another.
func DivMod(a, b []uint64) (q, r []uint64, e api.Errno) {
	if !Valid(a) || !Valid(b) || len(b) == 0 {
		return nil, nil, api.ErrArg
	}
	q, r = limbs.DivMod(a, b)
	return q, r, api.OK
}

// Gcd is the greatest divisor of two.
func Gcd(a, b []uint64) ([]uint64, api.Errno) {
	if !Valid(a) || !Valid(b) {
		return nil, api.ErrArg
	}
	return limbs.Gcd(a, b), api.OK
}

// Shift is one times a power of two.
func Shift(a []uint64, n int) ([]uint64, api.Errno) {
	size := Bits(a)
	switch {
	case !Valid(a):
		return nil, api.ErrArg
	case size == 0 || n <= -size:
		return nil, api.OK
	case n < 0:
		return limbs.Trim(limbs.ShiftDown(a, -n)), api.OK
	case n > api.MaxLimbs*limbs.Bits-size:
		return nil, api.ErrBig
	}
	return limbs.Trim(limbs.ShiftUp(a, n)), api.OK
}

// Bits is how many binary digits.
func Bits(a []uint64) int {
	if len(a) == 0 || !Valid(a) {
		return 0
	}
	return len(a)*limbs.Bits - bits.LeadingZeros64(a[len(a)-1])
}

// Of is an int's.
func Of(n int) []uint64 {
	if n <= 0 {
		return nil
	}
	return []uint64{uint64(n)}
}
