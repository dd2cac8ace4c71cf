package limbs

import (
	"strconv"
	"strings"
)

// Group is the greatest power of ten that a limb holds, GroupDigits its noughts:
// texts are read and written by groups of so many digits.
const (
	Group       = 10_000_000_000_000_000_000
	GroupDigits = 19
)

// AllDigits tells whether a text is decimal digits, one at least.
func AllDigits(s string) bool {
	for i := range len(s) {
		if s[i] < '0' || s[i] > '9' {
			return false
		}
	}
	return len(s) > 0
}

// Parse reads decimal digits. The time that it takes grows faster than their
// length: who calls looks at that first.
func Parse(digits string) []uint64 {
	var a []uint64
	for len(digits) > 0 {
		// The first group is the short one, so that all others are whole.
		n := (len(digits)-1)%GroupDigits + 1
		a = appendGroup(a, digits[:n])
		digits = digits[n:]
	}
	return a
}

// appendGroup puts up to GroupDigits more digits behind those of a, in a's
// place.
func appendGroup(a []uint64, digits string) []uint64 {
	var carry uint64
	for i := range len(digits) {
		carry = carry*10 + uint64(digits[i]-'0')
	}
	for i, x := range a {
		a[i], carry = MulAdd(x, Group, carry, 0)
	}
	if carry == 0 {
		return a
	}
	return append(a, carry)
}

// Text writes one in decimal digits, without noughts ahead.
func Text(a []uint64) string {
	groups := groupsOf(a)
	last := len(groups) - 1
	var text strings.Builder
	text.WriteString(strconv.FormatUint(groups[last], 10))
	for i := last - 1; i >= 0; i-- {
		text.WriteString(GroupText(groups[i]))
	}
	return text.String()
}

// GroupText writes a group, which is below Group, with all its digits.
func GroupText(group uint64) string {
	digits := strconv.FormatUint(group, 10)
	return strings.Repeat("0", GroupDigits-len(digits)) + digits
}

// groupsOf is a number to the base of a group, the least first; of 0 one 0.
func groupsOf(a []uint64) []uint64 {
	rest := append([]uint64(nil), a...)
	groups := []uint64{DivideWord(rest, Group)}
	for rest = Trim(rest); len(rest) > 0; rest = Trim(rest) {
		groups = append(groups, DivideWord(rest, Group))
	}
	return groups
}
