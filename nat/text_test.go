package nat_test

import (
	"math"
	"math/big"
	"slices"
	"strings"
	"testing"

	"theodolite/api"
	"theodolite/nat"
)

// P1.2

func TestBits(t *testing.T) {
	for _, a := range numbers() {
		if got, want := nat.Bits(a), toBig(a).BitLen(); got != want {
			t.Errorf("Bits(%v): %d, not %d", a, got, want)
		}
	}
	for _, a := range none() {
		if got := nat.Bits(a); got != 0 {
			t.Errorf("Bits(%v), which is no number: %d", a, got)
		}
	}
	for n := range 4096 {
		if got := nat.Bits(power(n)); got != n+1 {
			t.Errorf("Bits of 2^%d: %d", n, got)
		}
	}
}

func TestOf(t *testing.T) {
	for _, n := range []int{1, 2, 10, math.MaxInt32, math.MaxInt - 1, math.MaxInt} {
		if got := nat.Of(n); !slices.Equal(got, []uint64{uint64(n)}) {
			t.Errorf("Of(%d): %v", n, got)
		}
	}
	for _, n := range []int{0, -1, -2, math.MinInt32, math.MinInt, math.MinInt + 1} {
		if got := nat.Of(n); len(got) != 0 {
			t.Errorf("Of(%d): %v", n, got)
		}
	}
}

// samples are numbers whose texts have groups of noughts, and others.
func samples() [][]uint64 {
	list := numbers()
	for _, n := range []int{1, 18, 19, 20, 37, 38, 39, 57, 200, 1232, 1233} {
		ten := new(big.Int).Exp(big.NewInt(10), big.NewInt(int64(n)), nil)
		for _, d := range []int64{-1, 0, 1, 10, 1 << 40} {
			list = append(list, ofBig(new(big.Int).Add(ten, big.NewInt(d))))
		}
	}
	return list
}

func ofBig(z *big.Int) []uint64 {
	var a []uint64
	for low := new(big.Int).SetUint64(math.MaxUint64); z.Sign() > 0; z = new(big.Int).Rsh(z, 64) {
		a = append(a, new(big.Int).And(z, low).Uint64())
	}
	return a
}

func TestText(t *testing.T) {
	for _, a := range samples() {
		if got, want := nat.Text(a), toBig(a).String(); got != want {
			t.Errorf("Text(%v): %q, not %q", a, got, want)
		}
	}
	for _, a := range none() {
		if got := nat.Text(a); got != "" {
			t.Errorf("Text(%v), which is no number: %q", a, got)
		}
	}
}

func TestParse(t *testing.T) {
	for _, a := range samples() {
		text := toBig(a).String()
		for _, noughts := range []int{0, 1, 18, 19, 20, 3000} {
			got, e := nat.Parse(strings.Repeat("0", noughts) + text)
			if e != api.OK || !slices.Equal(got, a) {
				t.Errorf("Parse(%d noughts and %s): %v, %d", noughts, text, got, e)
			}
		}
	}
}

func TestParseBad(t *testing.T) {
	long := strings.Repeat("9", 5000)
	for _, s := range []string{
		"", " ", "-", "+", "-1", "+1", "-0", " 1", "1 ", "1 2", "12a", "a12", "0x10", "1_000", "1.0", "1e3", "/", ":", "1/", "1:", "\x00", "1\x00",
		"\n", "1\n", "٣", "１", "²", "1\xff", "\xff", long + "x", "x" + long, long + "x" + long, strings.Repeat("0", 5000) + "-1",
	} {
		if got, e := nat.Parse(s); e != api.ErrBad || len(got) != 0 {
			t.Errorf("Parse(%.20q): %v, %d", s, got, e)
		}
	}
}

func TestParseBig(t *testing.T) {
	last := new(big.Int).Lsh(big.NewInt(1), 4096) // the first that has a limb too many
	if got, e := nat.Parse(new(big.Int).Sub(last, big.NewInt(1)).String()); e != api.OK || !slices.Equal(got, most()) {
		t.Errorf("Parse of 2^4096 - 1: %v, %d", got, e)
	}
	for _, s := range []string{
		last.String(),
		"000" + last.String(),
		new(big.Int).Add(last, big.NewInt(1)).String(),
		strings.Repeat("9", 1234),
		"1" + strings.Repeat("0", 1234),
		strings.Repeat("9", 1<<16),
	} {
		if got, e := nat.Parse(s); e != api.ErrBig || len(got) != 0 {
			t.Errorf("Parse(%.20s..): %v, %d", s, got, e)
		}
	}
}
