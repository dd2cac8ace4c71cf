package rat

import (
	"strings"

	"theodolite/api"
	"theodolite/limbs"
	"theodolite/nat"
	"theodolite/whole"
)

// Parse reads one.
func Parse(s string) (api.Rat, api.Errno) {
	above, below, line := strings.Cut(s, "/")
	if !line {
		below = "1"
	}
	num, e := whole.Parse(above)
	den, f := nat.Parse(below)
	switch {
	case e == api.ErrBad || f == api.ErrBad || f == api.OK && len(den) == 0:
		return api.Rat{}, api.ErrBad
	case e != api.OK || f != api.OK:
		return api.Rat{}, api.ErrBig
	}
	return lowest(num.Neg, num.N, den), api.OK
}

// Text writes one.
func Text(a api.Rat) string {
	switch {
	case !Valid(a):
		return ""
	case limbs.IsOne(a.Den):
		return whole.Text(top(a))
	}
	return whole.Text(top(a)) + "/" + nat.Text(a.Den)
}
