// Package nat is numbers from 0 on: see DOC.md, chapter 1.
package nat

import (
	"math/bits"
	"slices"

	"theodolite/api"
)

// limbBits is how many binary digits a limb has.
const limbBits = 64

// Valid tells whether one is a number.
func Valid(a []uint64) bool {
	return len(a) == 0 || len(a) <= api.MaxLimbs && a[len(a)-1] != 0
}

// Cmp compares two.
func Cmp(a, b []uint64) int {
	switch {
	case !Valid(a) || !Valid(b):
		return 0
	case len(a) < len(b):
		return -1
	case len(a) > len(b):
		return 1
	}
	for i := len(a) - 1; i >= 0; i-- {
		if a[i] < b[i] {
			return -1
		}
		if a[i] > b[i] {
			return 1
		}
	}
	return 0
}

// Add adds two.
func Add(a, b []uint64) ([]uint64, api.Errno) {
	if !Valid(a) || !Valid(b) {
		return nil, api.ErrArg
	}
	sum := make([]uint64, max(len(a), len(b)), max(len(a), len(b))+1)
	var carry uint64
	for i := range sum {
		sum[i], carry = bits.Add64(limb(a, i), limb(b, i), carry)
	}
	if carry == 0 {
		return sum, api.OK
	}
	if len(sum) == api.MaxLimbs {
		return nil, api.ErrBig
	}
	return append(sum, carry), api.OK
}

// Sub takes one from another.
func Sub(a, b []uint64) ([]uint64, api.Errno) {
	if !Valid(a) || !Valid(b) || Cmp(a, b) < 0 {
		return nil, api.ErrArg
	}
	rest := make([]uint64, len(a))
	var borrow uint64
	for i := range rest {
		rest[i], borrow = bits.Sub64(a[i], limb(b, i), borrow)
	}
	return trim(rest), api.OK
}

// Mul multiplies two.
func Mul(a, b []uint64) ([]uint64, api.Errno) {
	if !Valid(a) || !Valid(b) {
		return nil, api.ErrArg
	}
	product := make([]uint64, min(len(a)+len(b), api.MaxLimbs))
	for i, x := range a {
		var carry uint64
		for k, y := range b {
			// Both last limbs are not 0: where one product of limbs
			// has no room, the whole has none.
			if i+k == len(product) {
				goto tooBig
			}
			product[i+k], carry = mulAdd(x, y, product[i+k], carry)
		}
		if carry == 0 {
			continue
		}
		if i+len(b) == len(product) {
			goto tooBig
		}
		product[i+len(b)] = carry
	}
	return trim(product), api.OK

tooBig:
	return nil, api.ErrBig
}

// DivMod divides one by another.
func DivMod(a, b []uint64) (q, r []uint64, e api.Errno) {
	if !Valid(a) || !Valid(b) || len(b) == 0 {
		return nil, nil, api.ErrArg
	}
	q, r = divide(a, b)
	return q, r, api.OK
}

// Gcd is the greatest divisor of two.
func Gcd(a, b []uint64) ([]uint64, api.Errno) {
	if !Valid(a) || !Valid(b) {
		return nil, api.ErrArg
	}
	x, y := slices.Clone(a), slices.Clone(b)
	for len(y) > 1 {
		_, r := divide(x, y)
		x, y = y, r
	}
	if len(y) == 0 {
		return x, api.OK
	}
	return []uint64{wordGcd(y[0], divideWord(x, y[0]))}, api.OK
}

// Shift is one times a power of two.
func Shift(a []uint64, n int) ([]uint64, api.Errno) {
	size := Bits(a)
	switch {
	case !Valid(a):
		return nil, api.ErrArg
	case size == 0 || n <= -size:
		return nil, api.OK
	case n < 0:
		return trim(shiftDown(a, -n)), api.OK
	case n > api.MaxLimbs*limbBits-size:
		return nil, api.ErrBig
	}
	return trim(shiftUp(a, n)), api.OK
}

// Bits is how many binary digits.
func Bits(a []uint64) int {
	if len(a) == 0 || !Valid(a) {
		return 0
	}
	return len(a)*limbBits - bits.LeadingZeros64(a[len(a)-1])
}

// Of is an int's.
func Of(n int) []uint64 {
	if n <= 0 {
		return nil
	}
	return []uint64{uint64(n)}
}
