package nat_test

import (
	"math"
	"math/big"
	"slices"
	"testing"

	"theodolite/api"
	"theodolite/nat"
)

// one is the number 1.
var one = []uint64{1}

// most is the greatest number.
func most() []uint64 { return slices.Repeat([]uint64{math.MaxUint64}, api.MaxLimbs) }

// power is 2^n, which has n+1 binary digits.
func power(n int) []uint64 {
	a := make([]uint64, n/64+1)
	a[n/64] = 1 << (n % 64)
	return a
}

// none are rows of limbs that are no numbers.
func none() [][]uint64 {
	return [][]uint64{
		{0},
		{1, 0},
		{0, 0, 0},
		make([]uint64, api.MaxLimbs),
		append(most()[:api.MaxLimbs-1], 0),
		append(most(), 1),
		append(most(), 0),
		make([]uint64, 1000),
	}
}

// numbers are many, small and great, with limbs at which carries go on.
func numbers() [][]uint64 {
	limbs := []uint64{0, 1, 2, 10, 1<<63 - 1, 1 << 63, 1<<63 + 1, math.MaxUint64 - 1, math.MaxUint64}
	list := [][]uint64{nil, most(), most()[:63], power(64 * 31), power(4095), power(4032)}
	seed := uint64(88172645463325252)
	next := func() uint64 {
		seed ^= seed << 13
		seed ^= seed >> 7
		seed ^= seed << 17
		return seed
	}
	for _, x := range limbs[1:] {
		list = append(list, []uint64{x})
		for _, y := range limbs {
			list = append(list, []uint64{y, x}, []uint64{y, y, x})
		}
	}
	for _, size := range []int{1, 2, 3, 5, 8, 13, 31, 32, 33, 63, 64} {
		for range 4 {
			a := make([]uint64, size)
			for i := range a {
				a[i] = next()
				if a[i]%5 == 0 {
					a[i] = limbs[a[i]%7]
				}
			}
			a[size-1] |= 1
			list = append(list, a)
		}
	}
	return list
}

func toBig(a []uint64) *big.Int {
	z := new(big.Int)
	for _, x := range slices.Backward(a) {
		z.Lsh(z, 64)
		z.Or(z, new(big.Int).SetUint64(x))
	}
	return z
}

// same tells whether an answer is the number that the library works out, or
// ErrBig where that has too many limbs.
func same(got []uint64, e api.Errno, want *big.Int) bool {
	if want.BitLen() > 64*api.MaxLimbs {
		return e == api.ErrBig && len(got) == 0
	}
	return e == api.OK && nat.Valid(got) && toBig(got).Cmp(want) == 0
}

// pairs asks check of each two of the numbers.
func pairs(check func(a, b []uint64)) {
	list := numbers()
	for _, a := range list {
		for _, b := range list {
			check(a, b)
		}
	}
}

// P1.1

func TestValid(t *testing.T) {
	for _, a := range append(numbers(), []uint64{}) {
		if !nat.Valid(a) {
			t.Errorf("%v is a number", a)
		}
	}
	for _, a := range none() {
		if nat.Valid(a) {
			t.Errorf("%v is no number", a)
		}
	}
}

func TestCmp(t *testing.T) {
	pairs(func(a, b []uint64) {
		if got, want := nat.Cmp(a, b), toBig(a).Cmp(toBig(b)); got != want {
			t.Fatalf("Cmp(%v, %v): %d, not %d", a, b, got, want)
		}
	})
	for _, a := range none() {
		if nat.Cmp(a, nil) != 0 || nat.Cmp(nil, a) != 0 || nat.Cmp(a, one) != 0 || nat.Cmp(one, a) != 0 || nat.Cmp(most(), a) != 0 {
			t.Errorf("Cmp of %v, which is no number, is not 0", a)
		}
	}
}

func TestNoNumberIsRefused(t *testing.T) {
	calls := map[string]func(a, b []uint64) ([]uint64, api.Errno){
		"Add": nat.Add, "Sub": nat.Sub, "Mul": nat.Mul, "Gcd": nat.Gcd,
		"DivMod's q": func(a, b []uint64) ([]uint64, api.Errno) { q, _, e := nat.DivMod(a, b); return q, e },
		"DivMod's r": func(a, b []uint64) ([]uint64, api.Errno) { _, r, e := nat.DivMod(a, b); return r, e },
	}
	for name, call := range calls {
		for _, bad := range none() {
			for _, good := range [][]uint64{nil, one, most(), bad} {
				if c, e := call(good, bad); e != api.ErrArg || len(c) != 0 {
					t.Errorf("%s(%v, %v): %v, %d", name, good, bad, c, e)
				}
				if c, e := call(bad, good); e != api.ErrArg || len(c) != 0 {
					t.Errorf("%s(%v, %v): %v, %d", name, bad, good, c, e)
				}
			}
		}
	}
	for _, bad := range none() {
		for _, n := range []int{0, 1, -1, 64, -64, math.MaxInt, math.MinInt} {
			if c, e := nat.Shift(bad, n); e != api.ErrArg || len(c) != 0 {
				t.Errorf("Shift(%v, %d): %v, %d", bad, n, c, e)
			}
		}
	}
}

func TestAdd(t *testing.T) {
	pairs(func(a, b []uint64) {
		c, e := nat.Add(a, b)
		if !same(c, e, new(big.Int).Add(toBig(a), toBig(b))) {
			t.Fatalf("Add(%v, %v): %v, %d", a, b, c, e)
		}
	})
	if c, e := nat.Add(most()[:63], one); e != api.OK || len(c) != 64 {
		t.Errorf("a carry into the last limb that there may be: %v, %d", c, e)
	}
	if c, e := nat.Add(most(), one); e != api.ErrBig || len(c) != 0 {
		t.Errorf("a carry into one more: %v, %d", c, e)
	}
}

func TestSub(t *testing.T) {
	pairs(func(a, b []uint64) {
		c, e := nat.Sub(a, b)
		want := new(big.Int).Sub(toBig(a), toBig(b))
		if want.Sign() < 0 {
			if e != api.ErrArg || len(c) != 0 {
				t.Fatalf("Sub(%v, %v), below 0: %v, %d", a, b, c, e)
			}
		} else if !same(c, e, want) {
			t.Fatalf("Sub(%v, %v): %v, %d", a, b, c, e)
		}
	})
}

func TestMul(t *testing.T) {
	pairs(func(a, b []uint64) {
		c, e := nat.Mul(a, b)
		if !same(c, e, new(big.Int).Mul(toBig(a), toBig(b))) {
			t.Fatalf("Mul(%v, %v): %v, %d", a, b, c, e)
		}
	})
	if c, _ := nat.Mul([]uint64{0, 1}, []uint64{0, 1}); !slices.Equal(c, []uint64{0, 0, 1}) {
		t.Errorf("the document's example: %v", c)
	}
	// Of 33 and 32 limbs the product has 64 or 65.
	if c, e := nat.Mul(power(64*32), power(64*32-1)); e != api.OK || nat.Bits(c) != 4096 {
		t.Errorf("2^4095: %v, %d", c, e)
	}
	if c, e := nat.Mul(power(64*32), power(64*32)); e != api.ErrBig || len(c) != 0 {
		t.Errorf("2^4096: %v, %d", c, e)
	}
	if c, e := nat.Mul(most()[:33], most()[:32]); e != api.ErrBig || len(c) != 0 {
		t.Errorf("a carry into one limb more: %v, %d", c, e)
	}
}

func TestDivMod(t *testing.T) {
	pairs(func(a, b []uint64) {
		q, r, e := nat.DivMod(a, b)
		if len(b) == 0 {
			if e != api.ErrArg || len(q)+len(r) != 0 {
				t.Fatalf("DivMod(%v, 0): %v, %v, %d", a, q, r, e)
			}
			return
		}
		x, y := new(big.Int).DivMod(toBig(a), toBig(b), new(big.Int))
		if !same(q, e, x) || !same(r, e, y) {
			t.Fatalf("DivMod(%v, %v): %v, %v, %d", a, b, q, r, e)
		}
	})
}

// TestDivModGuesses has divisions whose first guess at a limb is too great,
// once or twice, or would not be one limb.
func TestDivModGuesses(t *testing.T) {
	limbs := []uint64{0, 1, 3, 1<<63 - 1, 1 << 63, 1<<63 + 1, math.MaxUint64 - 1, math.MaxUint64}
	n := len(limbs)
	for i := range n * n * n * n {
		a := []uint64{limbs[i%n], limbs[i/n%n], limbs[i/n/n%n], limbs[i/n/n/n%n] | 1}
		for k := range n * n * n {
			b := []uint64{limbs[k%n], limbs[k/n%n], limbs[k/n/n%n] | 1}
			q, r, _ := nat.DivMod(a, b)
			p, _ := nat.Mul(q, b)
			back, e := nat.Add(p, r)
			if e != api.OK || !slices.Equal(back, a) || nat.Cmp(r, b) != -1 || !nat.Valid(q) || !nat.Valid(r) {
				t.Fatalf("DivMod(%v, %v): %v, %v", a, b, q, r)
			}
		}
	}
}

func TestGcd(t *testing.T) {
	list := numbers()
	for i, a := range list {
		for _, b := range list[i%3:] {
			c, e := nat.Gcd(a, b)
			if !same(c, e, new(big.Int).GCD(nil, nil, toBig(a), toBig(b))) {
				t.Fatalf("Gcd(%v, %v): %v, %d", a, b, c, e)
			}
		}
	}
	// Numbers that have much in common.
	for i, a := range list {
		b, c := list[(i*7+3)%len(list)], list[(i*5+1)%len(list)]
		x, e := nat.Mul(a, c)
		y, f := nat.Mul(b, c)
		if e != api.OK || f != api.OK {
			continue
		}
		g, e := nat.Gcd(x, y)
		if !same(g, e, new(big.Int).GCD(nil, nil, toBig(x), toBig(y))) {
			t.Fatalf("Gcd(%v, %v): %v, %d", x, y, g, e)
		}
	}
}

func TestGcdOfNoughts(t *testing.T) {
	for _, a := range numbers() {
		b, e := nat.Gcd(a, nil)
		c, f := nat.Gcd(nil, a)
		if e != api.OK || f != api.OK || !slices.Equal(a, b) || !slices.Equal(a, c) {
			t.Errorf("Gcd of %v and 0: %v, %v", a, b, c)
		}
	}
}

func TestShift(t *testing.T) {
	for _, a := range numbers() {
		for _, n := range []int{0, 1, 2, 31, 63, 64, 65, 127, 128, 129, 1000, 4031, 4032, 4033, 4095, 4096, 4097} {
			c, e := nat.Shift(a, n)
			if !same(c, e, new(big.Int).Lsh(toBig(a), uint(n))) {
				t.Fatalf("Shift(%v, %d): %v, %d", a, n, c, e)
			}
			c, e = nat.Shift(a, -n)
			if !same(c, e, new(big.Int).Rsh(toBig(a), uint(n))) {
				t.Fatalf("Shift(%v, %d): %v, %d", a, -n, c, e)
			}
		}
	}
}

func TestShiftFar(t *testing.T) {
	for _, n := range []int{math.MaxInt, math.MaxInt - 1, math.MaxInt - 4096, math.MaxInt32, 1 << 62} {
		for _, a := range [][]uint64{one, most(), power(4095)} {
			if c, e := nat.Shift(a, n); e != api.ErrBig || len(c) != 0 {
				t.Errorf("Shift(%v, %d): %v, %d", a, n, c, e)
			}
			for _, m := range []int{-n, -n - 1} {
				if c, e := nat.Shift(a, m); e != api.OK || len(c) != 0 {
					t.Errorf("Shift(%v, %d): %v, %d", a, m, c, e)
				}
			}
		}
		for _, m := range []int{n, -n, -n - 1} {
			if c, e := nat.Shift(nil, m); e != api.OK || len(c) != 0 {
				t.Errorf("Shift(0, %d): %v, %d", m, c, e)
			}
		}
	}
}
