package whole

import (
	"strings"

	"theodolite/api"
	"theodolite/nat"
)

// Parse reads one.
func Parse(s string) (api.Int, api.Errno) {
	digits, neg := strings.CutPrefix(s, "-")
	size, e := nat.Parse(digits)
	return signed(neg, size), e
}

// Text writes one.
func Text(a api.Int) string {
	switch {
	case !Valid(a):
		return ""
	case a.Neg:
		return "-" + nat.Text(a.N)
	}
	return nat.Text(a.N)
}
