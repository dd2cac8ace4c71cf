package nat

import "math/bits"

// limb is limb i of one; all above the last are 0.
func limb(a []uint64, i int) uint64 {
	if i < len(a) {
		return a[i]
	}
	return 0
}

// trim drops the limbs that are 0 at the end.
func trim(a []uint64) []uint64 {
	for len(a) > 0 && a[len(a)-1] == 0 {
		a = a[:len(a)-1]
	}
	return a
}

// mulAdd is x times y and two more. The four together never need more than
// two limbs, so that the sum that goes into high can't run over.
func mulAdd(x, y, c, d uint64) (low, high uint64) {
	high, low = bits.Mul64(x, y)
	low, carry := bits.Add64(low, c, 0)
	high += carry
	low, carry = bits.Add64(low, d, 0)
	return low, high + carry
}

// shiftUp is one times 2^n. It is not trimmed: it always has a limb more than
// the shift alone asks for, which division leans on.
func shiftUp(a []uint64, n int) []uint64 {
	limbs, rest := n/limbBits, n%limbBits
	up := make([]uint64, len(a)+limbs+1)
	for i, x := range a {
		up[i+limbs] |= x << rest
		up[i+limbs+1] = x >> (limbBits - rest)
	}
	return up
}

// shiftDown is one by 2^n, cut, not trimmed; n is less than its bits.
func shiftDown(a []uint64, n int) []uint64 {
	limbs, rest := n/limbBits, n%limbBits
	down := make([]uint64, len(a)-limbs)
	for i := range down {
		down[i] = a[i+limbs]>>rest | limb(a, i+limbs+1)<<(limbBits-rest)
	}
	return down
}
