package whole_test

import (
	"math/big"
	"strings"
	"testing"

	"theodolite/api"
	"theodolite/whole"
)

// P2.2

func TestText(t *testing.T) {
	for _, z := range numbers() {
		if got, want := whole.Text(of(z)), z.String(); got != want {
			t.Errorf("Text(%v): %q, not %q", z, got, want)
		}
	}
	for _, a := range none() {
		if got := whole.Text(a); got != "" {
			t.Errorf("Text(%v), which is no number: %q", a, got)
		}
	}
}

func TestParse(t *testing.T) {
	for _, z := range sizes() {
		for _, noughts := range []string{"", "0", strings.Repeat("0", 2000)} {
			digits := noughts + z.String()
			if got, e := whole.Parse(digits); !right(got, e, z) {
				t.Errorf("Parse(%.40s): %v, %d", digits, got, e)
			}
			if got, e := whole.Parse("-" + digits); !right(got, e, new(big.Int).Neg(z)) {
				t.Errorf("Parse(-%.40s): %v, %d", digits, got, e)
			}
		}
	}
}

func TestParseBad(t *testing.T) {
	long := strings.Repeat("9", 5000)
	for _, s := range []string{
		"", "-", "--", "--5", "---5", "+", "+5", "-+5", "+-5", "- 5", " -5", "-5 ", " 5", "5 ", "5-", "5-3", "-5-", "0-", "-0-", "1.0", "-1.0", "1/2", "-1/2", "-x", "x",
		"0x10", "-0x10", "1_000", "1e3", "−5", "-５", "-٣", "-\x00", "\x00-5", "-5\n", "\n-5", "-\xff", "\xff-5", long + "x", "-" + long + "x", "-x" + long, "--" + long,
	} {
		if got, e := whole.Parse(s); e != api.ErrBad || !zero(got) {
			t.Errorf("Parse(%.20q): %v, %d", s, got, e)
		}
	}
}

func TestParseBig(t *testing.T) {
	for _, digits := range []string{
		limit().String(),
		"000" + limit().String(),
		new(big.Int).Add(limit(), big.NewInt(1)).String(),
		strings.Repeat("9", 1234),
		strings.Repeat("9", 1<<16),
	} {
		for _, sign := range []string{"", "-"} {
			if got, e := whole.Parse(sign + digits); e != api.ErrBig || !zero(got) {
				t.Errorf("Parse(%.20s..): %v, %d", sign+digits, got, e)
			}
		}
	}
}
