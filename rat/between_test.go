package rat_test

import (
	"math/big"
	"testing"

	"theodolite/api"
	"theodolite/rat"
)

// P3.2

// nearest is the whole number nearest to 0 above x and below y, if there is one.
func nearest(x, y *big.Rat) (*big.Rat, bool) {
	near := new(big.Int)
	switch {
	case x.Sign() >= 0:
		near.Add(floorOf(x), big.NewInt(1))
	case y.Sign() <= 0:
		near.Add(floorOf(new(big.Rat).Neg(y)), big.NewInt(1)).Neg(near)
	}
	z := new(big.Rat).SetInt(near)
	return z, x.Cmp(z) < 0 && z.Cmp(y) < 0
}

func half(x, y *big.Rat) *big.Rat {
	sum := new(big.Rat).Add(x, y)
	return sum.Mul(sum, small(1, 2))
}

func checkBetween(t *testing.T, x, y *big.Rat, want *big.Rat) {
	t.Helper()
	got, e := rat.Between(of(x), of(y))
	if !right(got, e, want) {
		t.Fatalf("Between(%v, %v): %v, %d, not %v", x, y, got, e, want)
	}
}

func TestBetween(t *testing.T) {
	pairs(func(x, y *big.Rat, a, b api.Rat) {
		if x.Cmp(y) >= 0 {
			if got, e := rat.Between(a, b); e != api.ErrArg || !equal(got, api.Rat{}) {
				t.Fatalf("Between(%v, %v), the first not less: %v, %d", x, y, got, e)
			}
			return
		}
		want, there := nearest(x, y)
		if !there {
			want = half(x, y)
		}
		checkBetween(t, x, y, want)
	})
}

// lastBetween is the last of some whole numbers that lies between two, else
// half of their sum.
func lastBetween(x, y *big.Rat, list []int64) *big.Rat {
	last := half(x, y)
	for _, n := range list {
		if z := small(n, 1); x.Cmp(z) < 0 && z.Cmp(y) < 0 {
			last = z
		}
	}
	return last
}

func TestBetweenSmall(t *testing.T) {
	var list []int64 // those nearest to 0 last
	for n := int64(10); n >= 0; n-- {
		list = append(list, n, -n)
	}
	for n := int64(-9); n <= 9; n++ {
		for m := int64(-9); m <= 9; m++ {
			for d := int64(1); d <= 4; d++ {
				if x, y := small(n, d), small(m, 5-d); x.Cmp(y) < 0 {
					checkBetween(t, x, y, lastBetween(x, y, list))
				}
			}
		}
	}
}

func TestBetweenAtTheLimit(t *testing.T) {
	m := most()
	three := big.NewInt(3)
	n := new(big.Int).Sub(m, big.NewInt(2))
	tiny := by(big.NewInt(1), power(4095))
	for _, c := range [][3]*big.Rat{
		// The sum has too many limbs, half of it does not.
		{by(n, three), by(m, three), by(new(big.Int).Sub(m, big.NewInt(1)), three)},
		// Half of either has too many, that of the sum does not.
		{tiny, by(three, power(4095)), by(big.NewInt(1), power(4094))},
		// The last whole number that there may be on either side.
		{by(new(big.Int).Sub(m, big.NewInt(2)), big.NewInt(1)), new(big.Rat).SetInt(m), new(big.Rat).SetInt(new(big.Int).Sub(m, big.NewInt(1)))},
		{new(big.Rat).SetInt(new(big.Int).Neg(m)), small(0, 1), small(-1, 1)},
		{new(big.Rat), tiny, nil},
		{new(big.Rat).Neg(tiny), new(big.Rat), nil},
		{new(big.Rat).SetInt(new(big.Int).Sub(m, big.NewInt(1))), new(big.Rat).SetInt(m), nil},
	} {
		want := c[2]
		if want == nil {
			want = half(c[0], c[1])
		}
		checkBetween(t, c[0], c[1], want)
	}
}
