package quick_test

import (
	"math"
	"math/big"
	"math/rand"
	"slices"
	"testing"

	"theodolite/api"
	"theodolite/quick"
	"theodolite/rat"
)

const (
	tiny = math.SmallestNonzeroFloat64
	huge = math.MaxFloat64
)

var (
	inf   = math.Inf(1)
	nan   = math.NaN()
	minus = math.Copysign(0, -1)
)

// limbs are those of the size of a number of the library.
func limbs(z *big.Int) []uint64 {
	var a []uint64
	low := new(big.Int).SetUint64(math.MaxUint64)
	for size := new(big.Int).Abs(z); size.Sign() > 0; size.Rsh(size, 64) {
		a = append(a, new(big.Int).And(size, low).Uint64())
	}
	return a
}

// of is a fraction of the library as one of package api.
func of(x *big.Rat) api.Rat {
	return api.Rat{Neg: x.Sign() < 0, Num: limbs(x.Num()), Den: limbs(x.Denom())}
}

func exact(f float64) *big.Rat { return new(big.Rat).SetFloat64(f) }

func small(n, d int64) *big.Rat { return big.NewRat(n, d) }

// power is 2^n.
func power(n int) *big.Rat {
	size := new(big.Int).Lsh(big.NewInt(1), uint(max(n, -n)))
	if n < 0 {
		return new(big.Rat).SetFrac(big.NewInt(1), size)
	}
	return new(big.Rat).SetInt(size)
}

func neg(x *big.Rat) *big.Rat { return new(big.Rat).Neg(x) }

func add(x, y *big.Rat) *big.Rat { return new(big.Rat).Add(x, y) }

func mul(x, y *big.Rat) *big.Rat { return new(big.Rat).Mul(x, y) }

// order compares a float64 with a number, the infinite ones too.
func order(f float64, x *big.Rat) int {
	switch {
	case math.IsInf(f, 1):
		return 1
	case math.IsInf(f, -1):
		return -1
	}
	return exact(f).Cmp(x)
}

func isMinus(f float64) bool { return f == 0 && math.Signbit(f) }

// tight tells whether both parts are the nearest there may be.
func tight(c complex128, x *big.Rat) bool {
	low, high := real(c), imag(c)
	if math.IsNaN(low) || math.IsNaN(high) || isMinus(low) || isMinus(high) {
		return false
	}
	return order(low, x) <= 0 && order(high, x) >= 0 &&
		(math.IsInf(low, -1) && order(-huge, x) > 0 || order(math.Nextafter(low, inf), x) > 0) &&
		(math.IsInf(high, 1) && order(huge, x) < 0 || order(math.Nextafter(high, -inf), x) < 0)
}

// numbers are some of every kind, each beside its neighbours.
func numbers() []*big.Rat {
	list := []*big.Rat{small(0, 1), small(1, 3), small(2, 3), small(1, 10), small(22, 7), small(1<<53+1, 1), small(1<<53+3, 1), small(1<<54-1, 1), small(1<<54+2, 1), small(math.MaxInt64, 3)}
	for _, n := range []int{0, 1, -1, 52, 53, 54, 63, 64, 65, -52, -53, -64, 128, 970, 971, 1023, 1024, 4000, -1021, -1022, -1023, -1073, -1074, -1075, -1076, -4095} {
		list = append(list, power(n))
		for _, k := range []int{1, 51, 52, 53, 54, 70} {
			list = append(list, add(power(n), power(n-k)), add(power(n), neg(power(n-k))))
			list = append(list, mul(power(n), small(int64(k), 3)), mul(power(n), small(1<<53-1, int64(k))))
		}
	}
	for _, f := range []float64{huge, tiny, 2 * tiny, 3 * tiny, 0x1p-1022, math.Pi, 1e308} {
		x := exact(f)
		list = append(list, x, add(x, small(1, 2)), add(x, small(-1, 2)), add(x, power(-1075)), add(x, neg(power(-1076))), add(x, power(970)), add(x, power(971)))
	}
	r := rand.New(rand.NewSource(5))
	for range 3000 {
		num, den := new(big.Int).Rand(r, power(1+r.Intn(200)).Num()), new(big.Int).Rand(r, power(1+r.Intn(200)).Num())
		list = append(list, new(big.Rat).SetFrac(num, den.Add(den, big.NewInt(1))))
	}
	list = slices.DeleteFunc(list, tooLong)
	for _, x := range list {
		list = append(list, neg(x))
	}
	return list
}

func tooLong(x *big.Rat) bool {
	return max(x.Num().BitLen(), x.Denom().BitLen()) > 64*api.MaxLimbs
}

// P5.1

func TestOf(t *testing.T) {
	for _, x := range numbers() {
		if c := quick.Of(of(x)); !tight(c, x) {
			t.Errorf("Of(%v): %v", x, c)
		}
	}
}

func TestOfAtTheEdges(t *testing.T) {
	most := add(power(1024), neg(power(971)))
	half := add(most, power(970))
	for _, c := range []struct {
		x         *big.Rat
		low, high float64
	}{
		{small(0, 1), 0, 0}, {small(5, 2), 2.5, 2.5},
		{small(1, 3), 1.0 / 3, math.Nextafter(1.0/3, 1)},
		{most, huge, huge}, {add(most, power(-64)), huge, inf}, {half, huge, inf}, {power(1024), huge, inf}, {power(4095), huge, inf},
		{power(-1074), tiny, tiny}, {power(-1075), 0, tiny}, {power(-4095), 0, tiny}, {mul(small(3, 1), power(-1075)), tiny, 2 * tiny},
		{add(power(-1022), neg(power(-1074))), math.Nextafter(0x1p-1022, 0), math.Nextafter(0x1p-1022, 0)},
		{add(power(-1022), neg(power(-1075))), math.Nextafter(0x1p-1022, 0), 0x1p-1022},
	} {
		if got := quick.Of(of(c.x)); real(got) != c.low || imag(got) != c.high {
			t.Errorf("Of(%v): %v", c.x, got)
		}
		if got := quick.Of(of(neg(c.x))); real(got) != -c.high || imag(got) != -c.low || isMinus(real(got)) || isMinus(imag(got)) {
			t.Errorf("Of(-%v): %v", c.x, got)
		}
	}
}

func TestOfWhatIsNone(t *testing.T) {
	long := make([]uint64, api.MaxLimbs+1)
	long[api.MaxLimbs] = 1
	for _, a := range []api.Rat{
		{}, {Num: []uint64{1}}, {Num: []uint64{2}, Den: []uint64{4}}, {Neg: true, Den: []uint64{1}}, {Num: []uint64{1, 0}, Den: []uint64{1}},
		{Num: []uint64{1}, Den: []uint64{3, 0}}, {Num: long, Den: []uint64{1}}, {Num: []uint64{1}, Den: long}, {Den: []uint64{2}}, {Num: []uint64{1}, Den: []uint64{0}},
	} {
		if c := quick.Of(a); c != 0 || isMinus(real(c)) || isMinus(imag(c)) {
			t.Errorf("Of(%v): %v", a, c)
		}
	}
}

// floats are some of every kind that is finite.
func floats() []float64 {
	list := []float64{0, 1, 3, 0.1, 0.2, 0.3, 2.5, 1.0 / 3, 1 << 52, 1 << 53, 1<<53 - 1, 1<<53 + 2, 1 << 54, 1 << 63, 0x1p64, 0x1p70, 0x1p127, 0x1p128, 0x1p-52, 0x1p-53, 0x1p-54, 0x1p-64, 0x1p-128, tiny, 2 * tiny, 3 * tiny, 0x1p-1022, math.Nextafter(0x1p-1022, 0), math.Nextafter(0x1p-1022, 1), 0x1p-969, 0x1p969, 0x1p970, 0x1p971, math.Nextafter(0x1p970, 0), 0x1p1023, huge, math.Nextafter(huge, 0), 2 - 0x1p-52, 1 - 0x1p-53}
	r := rand.New(rand.NewSource(6))
	for len(list) < 150 {
		if f := math.Float64frombits(r.Uint64()); !math.IsNaN(f) && !math.IsInf(f, 0) {
			list = append(list, math.Abs(f))
		}
		list = append(list, math.Ldexp(r.Float64(), r.Intn(110)-55))
	}
	for _, f := range list {
		list = append(list, -f)
	}
	return list
}

func TestBack(t *testing.T) {
	for _, f := range floats() {
		a, ok := quick.Back(f)
		want := of(exact(f))
		if !ok || !rat.Valid(a) || a.Neg != want.Neg || !slices.Equal(a.Num, want.Num) || !slices.Equal(a.Den, want.Den) {
			t.Errorf("Back(%v): %v, %t", f, a, ok)
		}
		if c := quick.Of(a); real(c) != f || imag(c) != f {
			t.Errorf("Of(Back(%v)): %v", f, c)
		}
	}
	for _, f := range []float64{nan, inf, -inf} {
		if a, ok := quick.Back(f); ok || a.Neg || a.Num != nil || a.Den != nil {
			t.Errorf("Back(%v): %v, %t", f, a, ok)
		}
	}
}

func TestLess(t *testing.T) {
	for _, c := range []struct {
		a, b       complex128
		less, sure bool
	}{
		{complex(1, 2), complex(3, 4), true, true}, {complex(3, 4), complex(1, 2), false, true},
		{complex(1, 3), complex(2, 4), false, false}, {complex(2, 4), complex(1, 3), false, false},
		{complex(1, 2), complex(2, 3), false, false}, {complex(2, 3), complex(1, 2), false, true},
		{1 + 1i, 1 + 1i, false, true}, {1 + 2i, 1 + 2i, false, false}, {0, complex(minus, minus), false, true},
		{complex(1, math.Nextafter(2, 0)), complex(2, 2), true, true}, {complex(-inf, -huge), complex(-1, -1), true, true},
		{complex(-inf, 0), complex(1, inf), true, true}, {complex(1, inf), complex(1, inf), false, false}, {complex(huge, inf), complex(0, 1), false, true},
		{complex(inf, inf), complex(inf, inf), false, true}, {complex(-inf, -inf), complex(inf, inf), true, true},
		{complex(nan, 1), complex(2, nan), true, true}, {complex(3, nan), complex(nan, 2), false, true},
		{complex(1, nan), complex(2, 3), false, false}, {complex(nan, 1), complex(1, 3), false, false}, {complex(1, 2), complex(nan, nan), false, false}, {complex(nan, nan), complex(1, 2), false, false}, {complex(nan, nan), complex(nan, nan), false, false},
	} {
		if less, sure := quick.Less(c.a, c.b); less != c.less || sure != c.sure {
			t.Errorf("Less(%v, %v): %t, %t", c.a, c.b, less, sure)
		}
	}
}

func TestExact(t *testing.T) {
	for _, c := range []complex128{0, complex(0, minus), 1 + 1i, complex(-0.1, -0.1), complex(huge, huge), complex(tiny, tiny)} {
		if !quick.Exact(c) {
			t.Errorf("Exact(%v): false", c)
		}
	}
	for _, c := range []complex128{complex(1, 2), complex(1, -1), complex(1, math.Nextafter(1, 2)), complex(huge, inf), complex(inf, inf), complex(-inf, -inf), complex(-inf, inf), complex(nan, nan), complex(nan, 1), complex(1, nan)} {
		if quick.Exact(c) {
			t.Errorf("Exact(%v): true", c)
		}
	}
}

func TestAdd(t *testing.T) {
	list := floats()
	for _, x := range list {
		for _, y := range list {
			want := add(exact(x), exact(y))
			if c := quick.Add(complex(x, x), complex(y, y)); !tight(c, want) {
				t.Errorf("Add of %v and %v: %v", x, y, c)
			}
		}
	}
}

// Each part hangs on the two of its own kind alone.
func TestAddParts(t *testing.T) {
	for _, c := range [][3]complex128{
		{complex(1, 5), complex(10, 50), complex(11, 55)},
		{complex(1, huge), complex(tiny, huge), complex(1, inf)},
		{complex(-huge, 1), complex(-huge, -tiny), complex(-inf, 1)},
		{complex(huge, -huge), complex(huge, -huge), complex(huge, -huge)},
		{complex(-inf, 1), complex(1, inf), complex(-inf, inf)},
		{complex(inf, -inf), complex(-huge, huge), complex(inf, -inf)},
		{complex(inf, -inf), complex(inf, -inf), complex(inf, -inf)},
		{complex(nan, 1), complex(1, nan), complex(nan, nan)},
		{complex(nan, inf), complex(inf, nan), complex(nan, nan)},
		{complex(nan, nan), complex(nan, 2), complex(nan, nan)},
		{complex(-inf, inf), complex(inf, -inf), complex(nan, nan)},
		{complex(minus, minus), complex(minus, minus), 0},
		{complex(minus, 0), complex(0, minus), 0},
		{complex(tiny, -tiny), complex(-tiny, tiny), 0},
	} {
		for _, got := range []complex128{quick.Add(c[0], c[1]), quick.Add(c[1], c[0])} {
			if !alike(real(got), real(c[2])) || !alike(imag(got), imag(c[2])) {
				t.Errorf("Add(%v, %v): %v", c[0], c[1], got)
			}
		}
	}
}

// alike tells whether two floats are one, signs of 0 and NaN told apart.
func alike(f, g float64) bool {
	return math.IsNaN(f) && math.IsNaN(g) || f == g && math.Signbit(f) == math.Signbit(g)
}
