package decimal_test

import (
	"math/big"
	"regexp"
	"strings"
	"testing"

	"theodolite/api"
	"theodolite/decimal"
)

// P4.1

var form = regexp.MustCompile(`^(0|[1-9][0-9]*)(\.[0-9]+)?$`)

// checkParse holds Parse of any text against the library's reading of those
// that have the form.
func checkParse(t *testing.T, s string) {
	t.Helper()
	got, e := decimal.Parse(s)
	if !form.MatchString(s) {
		if e != api.ErrBad || !equal(got, api.Rat{}) {
			t.Fatalf("Parse(%.30q): %v, %d", s, got, e)
		}
		return
	}
	want, _ := new(big.Rat).SetString(s)
	if !right(got, e, want) {
		t.Fatalf("Parse(%.30q): %v, %d, not %v", s, got, e, want)
	}
}

func TestParse(t *testing.T) {
	for text, want := range map[string]*big.Rat{
		"0": small(0, 1), "0.0": small(0, 1), "0.000": small(0, 1), "7": small(7, 1), "7.0": small(7, 1), "120": small(120, 1), "100.00": small(100, 1),
		"0.5": small(1, 2), "0.50": small(1, 2), "0.05": small(1, 20), "0.125": small(1, 8), "1.50": small(3, 2), "12.3": small(123, 10), "10.01": small(1001, 100),
		"0.0000000000000000001": by(big.NewInt(1), power(10, 19)), "18446744073709551616.5": by(new(big.Int).Add(power(2, 65), big.NewInt(1)), big.NewInt(2)),
	} {
		if got, e := decimal.Parse(text); !right(got, e, want) {
			t.Errorf("Parse(%q): %v, %d, not %v", text, got, e, want)
		}
		checkParse(t, text)
	}
}

// TestParseShort has all texts of few letters.
func TestParseShort(t *testing.T) {
	last := []string{""}
	for range 5 {
		var next []string
		for _, s := range last {
			checkParse(t, s)
			for _, letter := range []string{"0", "1", "2", "5", ".", "-", "e"} {
				next = append(next, s+letter)
			}
		}
		last = next
	}
	for n := range 10000 {
		digits := small(int64(n), 1).Num().String()
		checkParse(t, digits)
		checkParse(t, "3."+digits)
		checkParse(t, "0.00"+digits)
		checkParse(t, digits+"."+digits)
	}
}

func TestParseBad(t *testing.T) {
	nines := strings.Repeat("9", 5000)
	for _, s := range []string{
		"", ".", "..", "1.", ".5", "0.", "00", "01", "007", "00.5", "01.5", "000", "00.", "1..5", "1.5.2", "1.5.", ".1.5",
		"-1", "+1", "-0", "-0.5", "1.-5", "1.+5", "--1", "1-", "1e3", "1.5e3", "1.5a", "a", "1.a", "a.1", "0x1", "1_0", "1.0_0", "1/2", "1,5", "1:", "0;",
		" 1", "1 ", "1 .5", "1. 5", "1.5 ", "1.5\n", "\t1", "1\x00", "\x001", "1.\x00", "\xff", "1.\xff5", "１", "1.５", "1．5", "١",
		nines + ".", "." + nines, "0" + nines, "0" + nines + ".5", nines + ".x", nines + ".5.", nines + "x", "0." + nines + "x", "-" + nines, nines + "." + nines + ".", strings.Repeat("0", 5000),
	} {
		if got, e := decimal.Parse(s); e != api.ErrBad || !equal(got, api.Rat{}) {
			t.Errorf("Parse(%.20q): %v, %d", s, got, e)
		}
	}
}

// TestParseLong has each of the long fractions that has such a text, with
// noughts behind and without, and what lies next to it in its last digit.
func TestParseLong(t *testing.T) {
	count := map[bool]int{}
	for _, x := range long() {
		n, _ := placesOf(x)
		step := by(big.NewInt(1), power(10, n))
		for _, y := range []*big.Rat{x, new(big.Rat).Add(x, step), new(big.Rat).Sub(x, step)} {
			if y.Sign() >= 0 {
				checkParse(t, y.FloatString(n))
				checkParse(t, y.FloatString(n+1))
				checkParse(t, y.FloatString(n+300))
				count[fits(y)]++
			}
		}
	}
	if count[true] < 100 || count[false] < 100 {
		t.Errorf("of the fractions %v fit", count)
	}
}

// TestParseAtTheLimit has those that just fit, and the next ones that do not.
func TestParseAtTheLimit(t *testing.T) {
	beyond := new(big.Int).Add(most(), big.NewInt(1))
	odd := new(big.Int).Sub(power(2, 4095), big.NewInt(1)) // twice that and one is the greatest number
	tiny, less := by(big.NewInt(1), power(2, 4095)).FloatString(4095), by(big.NewInt(1), power(2, 4096)).FloatString(4096)
	fifth, sixth := by(big.NewInt(1), power(5, 1764)).FloatString(1764), by(big.NewInt(1), power(5, 1765)).FloatString(1765)
	noughts := strings.Repeat("0", 1<<17)
	for s, want := range map[string]api.Errno{
		most().String():                 api.OK,
		beyond.String():                 api.ErrBig,
		most().String() + ".0":          api.OK,
		beyond.String() + ".0":          api.ErrBig,
		odd.String() + ".5":             api.OK,
		power(2, 4095).String():         api.OK,
		most().String() + ".5":          api.ErrBig,
		tiny:                            api.OK,
		less:                            api.ErrBig,
		"1" + tiny[1:]:                  api.OK,
		"2" + tiny[1:]:                  api.ErrBig,
		fifth:                           api.OK,
		sixth:                           api.ErrBig,
		tiny + noughts:                  api.OK,
		"0.5" + noughts:                 api.OK,
		"0." + noughts:                  api.OK,
		"0." + noughts + "1":            api.ErrBig,
		"1" + noughts:                   api.ErrBig,
		"1" + noughts + ".5":            api.ErrBig,
		"5." + noughts + "5":            api.ErrBig,
		most().String() + "." + noughts: api.OK,
		strings.Repeat("9", 1<<20) + "." + strings.Repeat("9", 1<<20): api.ErrBig,
	} {
		if got, e := decimal.Parse(s); e != want || e != api.OK && !equal(got, api.Rat{}) {
			t.Errorf("Parse(%.20s..%s) of %d letters: %v, %d, not %d", s, s[len(s)-5:], len(s), got, e, want)
		}
		if len(s) < 10000 {
			checkParse(t, s)
		}
	}
}
