// Package limbs is arithmetic on rows of limbs of any length: what package nat
// promises of numbers that are not too long, and what packages rat and decimal
// need on the way to such. A row is a number to the base 2^64, the least limb
// first; it is handed in trimmed (the last limb is not 0; 0 has none), unless a
// call says otherwise. No row that is handed in is changed, unless a call says
// so, and each answer is new memory.
package limbs

import "math/bits"

// Bits is how many binary digits a limb has.
const Bits = 64

// limb is limb i of one; all above the last are 0.
func limb(a []uint64, i int) uint64 {
	if i < len(a) {
		return a[i]
	}
	return 0
}

// Trim drops the limbs that are 0 at the end; it answers a piece of a.
func Trim(a []uint64) []uint64 {
	for len(a) > 0 && a[len(a)-1] == 0 {
		a = a[:len(a)-1]
	}
	return a
}

// IsOne tells whether one is 1.
func IsOne(a []uint64) bool { return len(a) == 1 && a[0] == 1 }

// Cmp compares two.
func Cmp(a, b []uint64) int {
	switch {
	case len(a) < len(b):
		return -1
	case len(a) > len(b):
		return 1
	}
	for i := len(a) - 1; i >= 0; i-- {
		if a[i] < b[i] {
			return -1
		}
		if a[i] > b[i] {
			return 1
		}
	}
	return 0
}

// Add adds two.
func Add(a, b []uint64) []uint64 {
	sum := make([]uint64, max(len(a), len(b)), max(len(a), len(b))+1)
	var carry uint64
	for i := range sum {
		sum[i], carry = bits.Add64(limb(a, i), limb(b, i), carry)
	}
	if carry == 0 {
		return sum
	}
	return append(sum, carry)
}

// Sub takes b from a, which is not less.
func Sub(a, b []uint64) []uint64 {
	rest := make([]uint64, len(a))
	var borrow uint64
	for i := range rest {
		rest[i], borrow = bits.Sub64(a[i], limb(b, i), borrow)
	}
	return Trim(rest)
}

// MulAdd is x times y and two more. The four together never need more than
// two limbs, so that the sum that goes into high can't run over.
func MulAdd(x, y, c, d uint64) (low, high uint64) {
	high, low = bits.Mul64(x, y)
	low, carry := bits.Add64(low, c, 0)
	high += carry
	low, carry = bits.Add64(low, d, 0)
	return low, high + carry
}

// Mul multiplies two. It stops where the product has more limbs than most: it
// does not fit then.
func Mul(a, b []uint64, most int) (product []uint64, fits bool) {
	product = make([]uint64, min(len(a)+len(b), most))
	for i, x := range a {
		var carry uint64
		for k, y := range b {
			// Both last limbs are not 0: where one product of limbs
			// has no room, the whole has none.
			if i+k == len(product) {
				goto tooBig
			}
			product[i+k], carry = MulAdd(x, y, product[i+k], carry)
		}
		if carry == 0 {
			continue
		}
		if i+len(b) == len(product) {
			goto tooBig
		}
		product[i+len(b)] = carry
	}
	return Trim(product), true

tooBig:
	return nil, false
}

// ShiftUp is one times 2^n. It is not trimmed: it always has a limb more than
// the shift alone asks for, which division leans on.
func ShiftUp(a []uint64, n int) []uint64 {
	whole, rest := n/Bits, n%Bits
	up := make([]uint64, len(a)+whole+1)
	for i, x := range a {
		up[i+whole] |= x << rest
		up[i+whole+1] = x >> (Bits - rest)
	}
	return up
}

// ShiftDown is one by 2^n, cut, not trimmed; n is less than its bits.
func ShiftDown(a []uint64, n int) []uint64 {
	whole, rest := n/Bits, n%Bits
	down := make([]uint64, len(a)-whole)
	for i := range down {
		down[i] = a[i+whole]>>rest | limb(a, i+whole+1)<<(Bits-rest)
	}
	return down
}
