package nat

import (
	"strconv"
	"strings"

	"theodolite/api"
	"theodolite/limbs"
)

// The greatest power of ten that a limb holds, and its noughts: texts are read
// and written by groups of so many digits.
const (
	group       = 10_000_000_000_000_000_000
	groupDigits = 19
)

// mostDigits is how many digits the greatest number has; it is looked at first
// so that the time that a text takes does not grow faster than its length.
const mostDigits = 1234

// Parse reads one.
func Parse(s string) ([]uint64, api.Errno) {
	if !allDigits(s) {
		return nil, api.ErrBad
	}
	s = strings.TrimLeft(s, "0")
	if len(s) > mostDigits {
		return nil, api.ErrBig
	}
	var a []uint64
	for len(s) > 0 {
		// The first group is the short one, so that all others are whole.
		n := (len(s)-1)%groupDigits + 1
		a = appendGroup(a, s[:n])
		s = s[n:]
	}
	if len(a) > api.MaxLimbs {
		return nil, api.ErrBig
	}
	return a, api.OK
}

// allDigits tells whether a text is decimal digits, one at least.
func allDigits(s string) bool {
	for i := range len(s) {
		if s[i] < '0' || s[i] > '9' {
			return false
		}
	}
	return len(s) > 0
}

// appendGroup puts up to groupDigits more digits behind those of a, in a's
// place.
func appendGroup(a []uint64, digits string) []uint64 {
	var carry uint64
	for i := range len(digits) {
		carry = carry*10 + uint64(digits[i]-'0')
	}
	for i, x := range a {
		a[i], carry = limbs.MulAdd(x, group, carry, 0)
	}
	if carry == 0 {
		return a
	}
	return append(a, carry)
}

// Text writes one.
func Text(a []uint64) string {
	if !Valid(a) {
		return ""
	}
	groups := groupsOf(a)
	var text strings.Builder
	for i := len(groups) - 1; i >= 0; i-- {
		digits := strconv.FormatUint(groups[i], 10)
		if i < len(groups)-1 {
			text.WriteString(strings.Repeat("0", groupDigits-len(digits)))
		}
		text.WriteString(digits)
	}
	return text.String()
}

// groupsOf is a number to the base of a group, the least first; of 0 one 0.
func groupsOf(a []uint64) []uint64 {
	rest := append([]uint64(nil), a...)
	groups := []uint64{limbs.DivideWord(rest, group)}
	for rest = limbs.Trim(rest); len(rest) > 0; rest = limbs.Trim(rest) {
		groups = append(groups, limbs.DivideWord(rest, group))
	}
	return groups
}
