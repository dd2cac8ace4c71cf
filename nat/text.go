package nat

import (
	"strings"

	"theodolite/api"
	"theodolite/limbs"
)

// mostDigits is how many digits the greatest number has; it is looked at first
// so that the time that a text takes does not grow faster than its length.
const mostDigits = 1234

// Parse reads one.
func Parse(s string) ([]uint64, api.Errno) {
	if !limbs.AllDigits(s) {
		return nil, api.ErrBad
	}
	s = strings.TrimLeft(s, "0")
	if len(s) > mostDigits {
		return nil, api.ErrBig
	}
	a := limbs.Parse(s)
	if len(a) > api.MaxLimbs {
		return nil, api.ErrBig
	}
	return a, api.OK
}

// Text writes one.
func Text(a []uint64) string {
	if !Valid(a) {
		return ""
	}
	return limbs.Text(a)
}
