package decimal_test

import (
	"math/big"
	"testing"

	"theodolite/api"
	"theodolite/decimal"
)

// P4.1

func TestShow(t *testing.T) {
	for _, c := range []struct {
		x    *big.Rat
		want string
	}{
		{small(0, 1), "0.0"}, {small(1, 1), "1.0"}, {small(7, 1), "7.0"}, {small(120, 1), "120.0"},
		{small(-1, 1), "(- 1.0)"}, {small(-70, 1), "(- 70.0)"},
		{small(1, 2), "(/ 1.0 2.0)"}, {small(3, 10), "(/ 3.0 10.0)"}, {small(22, 7), "(/ 22.0 7.0)"},
		{small(-3, 4), "(- (/ 3.0 4.0))"}, {small(-1, 3), "(- (/ 1.0 3.0))"},
		{by(power(10, 30), big.NewInt(1)), "1000000000000000000000000000000.0"},
		{by(big.NewInt(1), power(10, 30)), "(/ 1.0 1000000000000000000000000000000.0)"},
		{by(new(big.Int).Neg(power(2, 64)), power(3, 41)), "(- (/ 18446744073709551616.0 36472996377170786403.0))"},
	} {
		if got := decimal.Show(of(c.x)); got != c.want {
			t.Errorf("Show(%v): %q", c.x, got)
		}
	}
}

// shown is the text of a fraction of the library.
func shown(x *big.Rat) string {
	switch {
	case x.Sign() < 0:
		return "(- " + shown(new(big.Rat).Neg(x)) + ")"
	case x.IsInt():
		return x.Num().String() + ".0"
	}
	return "(/ " + x.Num().String() + ".0 " + x.Denom().String() + ".0)"
}

func TestShowLong(t *testing.T) {
	for _, x := range long() {
		for _, y := range []*big.Rat{x, new(big.Rat).Neg(x), new(big.Rat).Inv(x)} {
			want := shown(y)
			if !fits(y) {
				want = ""
			}
			if got := decimal.Show(of(y)); got != want {
				t.Errorf("Show(%v): %q", y, got)
			}
		}
	}
}

func TestExact(t *testing.T) {
	for _, c := range []struct {
		x    *big.Rat
		want string
	}{
		{small(0, 1), "0.0"}, {small(2, 1), "2.0"}, {small(100, 1), "100.0"}, {small(1, 2), "0.5"}, {small(1, 5), "0.2"}, {small(1, 8), "0.125"}, {small(1, 10), "0.1"},
		{small(123, 10), "12.3"}, {small(7, 32), "0.21875"}, {small(1, 1000000), "0.000001"}, {small(1001, 100), "10.01"}, {small(3, 250), "0.012"},
		{by(big.NewInt(1), power(10, 19)), "0.0000000000000000001"}, {by(big.NewInt(1), power(10, 20)), "0.00000000000000000001"},
		{by(power(10, 19), big.NewInt(1)), "10000000000000000000.0"}, {by(big.NewInt(3), power(10, 38)), "0.00000000000000000000000000000000000003"},
		// All of the second group of digits, and most of the third, are noughts.
		{by(new(big.Int).Add(power(10, 38), big.NewInt(1)), power(10, 57)), "0.000000000000000000" + "1" + "0000000000000000000" + "000000000000000000" + "1"},
	} {
		if got, ok := decimal.Exact(of(c.x)); !ok || got != c.want {
			t.Errorf("Exact(%v): %q, %v, not %q", c.x, got, ok, c.want)
		}
	}
}

// checkExact holds Exact against the library, and its text against Parse (P4.2).
func checkExact(t *testing.T, x *big.Rat) {
	t.Helper()
	got, ok := decimal.Exact(of(x))
	n, there := placesOf(x)
	if x.Sign() < 0 || !there || !fits(x) {
		if ok || got != "" {
			t.Fatalf("Exact(%v), which has no text: %q, %v", x, got, ok)
		}
		return
	}
	if want := x.FloatString(max(n, 1)); !ok || got != want {
		t.Fatalf("Exact(%v): %q, %v, not %q", x, got, ok, want)
	}
	if back, e := decimal.Parse(got); e != api.OK || !equal(back, of(x)) {
		t.Fatalf("Parse(%q): %v, %d, not %v", got, back, e, x)
	}
}

func TestExactSmall(t *testing.T) {
	for d := int64(1); d <= 260; d++ {
		for n := int64(-3); n <= 300; n += 1 + d%3 {
			checkExact(t, small(n, d))
		}
	}
}

// TestExactOfPrimes has fractions over powers of 2 and 5, times another prime
// or not.
func TestExactOfPrimes(t *testing.T) {
	for twos := 0; twos <= 130; twos += 1 + twos/9 {
		for fives := 0; fives <= 60; fives += 1 + fives/7 {
			den := new(big.Int).Mul(power(2, twos), power(5, fives))
			for _, n := range []*big.Int{big.NewInt(1), big.NewInt(77), power(3, 90)} {
				checkExact(t, by(n, den))
				checkExact(t, by(new(big.Int).Neg(n), den))
				checkExact(t, by(n, new(big.Int).Mul(den, big.NewInt(13))))
			}
		}
	}
}

func TestExactLong(t *testing.T) {
	for _, x := range long() {
		checkExact(t, x)
		checkExact(t, new(big.Rat).Neg(x))
		if x.Sign() > 0 {
			checkExact(t, new(big.Rat).Inv(x))
		}
	}
	three := new(big.Int).Mul(power(2, 2000), big.NewInt(3))
	checkExact(t, by(big.NewInt(1), three))
	checkExact(t, by(big.NewInt(1), most()))
	checkExact(t, by(big.NewInt(2), new(big.Int).Mul(power(5, 1700), big.NewInt(7))))
}

func TestOfNone(t *testing.T) {
	for _, a := range none() {
		if got := decimal.Show(a); got != "" {
			t.Errorf("Show(%v), which is none: %q", a, got)
		}
		if got, ok := decimal.Exact(a); ok || got != "" {
			t.Errorf("Exact(%v), which is none: %q, %v", a, got, ok)
		}
	}
}

func TestOfAnEmptyList(t *testing.T) {
	zero := api.Rat{Num: []uint64{}, Den: []uint64{1}}
	if got := decimal.Show(zero); got != "0.0" {
		t.Errorf("Show of 0: %q", got)
	}
	if got, ok := decimal.Exact(zero); !ok || got != "0.0" {
		t.Errorf("Exact of 0: %q, %v", got, ok)
	}
}
