package rat_test

import (
	"math/big"
	"strings"
	"testing"

	"theodolite/api"
	"theodolite/rat"
)

// P3.2

// told is the text of a fraction of the library.
func told(x *big.Rat) string {
	return strings.TrimSuffix(x.String(), "/1")
}

func TestText(t *testing.T) {
	for _, x := range numbers() {
		if got := rat.Text(of(x)); got != told(x) {
			t.Errorf("Text(%v): %q", x, got)
		}
		if got, e := rat.Parse(told(x)); !right(got, e, x) {
			t.Errorf("Parse(%v): %v, %d", x, got, e)
		}
	}
	for _, a := range none() {
		if got := rat.Text(a); got != "" {
			t.Errorf("Text(%v), which is none: %q", a, got)
		}
	}
}

func TestParse(t *testing.T) {
	for text, want := range map[string]*big.Rat{
		"0": small(0, 1), "-0": small(0, 1), "000": small(0, 1), "-000/009": small(0, 1), "0/7": small(0, 1),
		"1": small(1, 1), "-1": small(-1, 1), "007": small(7, 1), "-007/1": small(-7, 1),
		"6/4": small(3, 2), "-6/4": small(-3, 2), "4/2": small(2, 1), "-4/4": small(-1, 1), "0006/0004": small(3, 2), "1/001": small(1, 1),
	} {
		if got, e := rat.Parse(text); !right(got, e, want) {
			t.Errorf("Parse(%q): %v, %d, not %v", text, got, e, want)
		}
	}
	for _, n := range sizes() {
		for _, d := range sizes() {
			if d.Sign() > 0 {
				text := n.String() + "/" + d.String()
				if got, e := rat.Parse(text); !right(got, e, by(n, d)) {
					t.Errorf("Parse(%s): %v, %d", text, got, e)
				}
				if got, e := rat.Parse("-" + text); !right(got, e, by(new(big.Int).Neg(n), d)) {
					t.Errorf("Parse(-%s): %v, %d", text, got, e)
				}
			}
		}
	}
}

func TestParseBad(t *testing.T) {
	long := strings.Repeat("9", 5000)
	for _, s := range []string{
		"", "-", "/", "-/", "--1", "+1", "1/", "-1/", "/1", "-/1", "1//1", "1/1/1", "1/1/", "1/-1", "-1/-1", "1/+1", "1/0", "0/0", "-1/0", "1/000", "1/-0", "1.5", "1/1.5", "1.5/1",
		" 1", "1 ", "1 /2", "1/ 2", "1/2 ", "a", "1/a", "a/1", "1/0x2", "1/1_0", "1e3", "1/1e3", "1/２", "１/2", "1∕2", "1\x00/2", "1/2\x00", "1/\xff", "1/2\n",
		long + "/", long + "/0", long + "/x", "x/" + long, "0x/" + long, long + "x/1", "1/" + long + "x", long + "/" + long + "/", "1/-" + long, "--" + long + "/" + long,
	} {
		if got, e := rat.Parse(s); e != api.ErrBad || !equal(got, api.Rat{}) {
			t.Errorf("Parse(%.20q): %v, %d", s, got, e)
		}
	}
}

func TestParseBig(t *testing.T) {
	long, last := power(4096).String(), most().String()
	for _, s := range []string{
		long, "-" + long, "000" + long, long + "/1", "1/" + long, "-1/" + long, "0/" + long, "-0/000" + long,
		long + "/2", long + "/" + long, "2/" + long, last + "/" + long, long + "/" + last, strings.Repeat("9", 1<<16) + "/" + strings.Repeat("9", 1<<16),
	} {
		if got, e := rat.Parse(s); e != api.ErrBig || !equal(got, api.Rat{}) {
			t.Errorf("Parse(%.20s..): %v, %d", s, got, e)
		}
	}
	noughts := strings.Repeat("0", 5000)
	if got, e := rat.Parse("-" + noughts + last + "/" + noughts + last); !right(got, e, small(-1, 1)) {
		t.Errorf("Parse of noughts, the greatest number, the line, and those: %v, %d", got, e)
	}
}
