package limbs_test

import (
	"math"
	"math/big"
	"math/bits"
	"slices"
	"testing"

	"theodolite/limbs"
)

// rows are some of few limbs and some of more than a number may have, with
// limbs at which carries go on.
func rows() [][]uint64 {
	edges := []uint64{0, 1, 2, 3, 1<<32 - 1, 1 << 32, 1<<63 - 1, 1 << 63, 1<<63 + 1, math.MaxUint64 - 1, math.MaxUint64}
	list := [][]uint64{nil}
	seed := uint64(88172645463325252)
	next := func() uint64 {
		seed ^= seed << 13
		seed ^= seed >> 7
		seed ^= seed << 17
		return seed
	}
	for _, x := range edges[1:] {
		list = append(list, []uint64{x}, []uint64{math.MaxUint64, x}, []uint64{0, x})
	}
	for _, size := range []int{1, 2, 3, 4, 5, 7, 11, 20, 33, 64, 65, 127, 128, 129, 150} {
		list = append(list, slices.Repeat([]uint64{math.MaxUint64}, size))
		for range 3 {
			a := make([]uint64, size)
			for i := range a {
				a[i] = next()
				if a[i]%4 == 0 {
					a[i] = edges[next()%uint64(len(edges))]
				}
			}
			a[size-1] |= 1
			list = append(list, a)
		}
	}
	return list
}

func toBig(a []uint64) *big.Int {
	z := new(big.Int)
	for _, x := range slices.Backward(a) {
		z.Lsh(z, 64)
		z.Or(z, new(big.Int).SetUint64(x))
	}
	return z
}

// same tells whether an answer is trimmed, and the number that the library
// works out.
func same(got []uint64, want *big.Int) bool {
	return (len(got) == 0 || got[len(got)-1] != 0) && toBig(got).Cmp(want) == 0
}

// pairs asks check of each two of the rows, and then whether they are as they
// were, and their room too.
func pairs(t *testing.T, check func(a, b []uint64, x, y *big.Int)) {
	const mark = 0xdead
	list := rows()
	for _, a := range list {
		for _, b := range list {
			c, d := append(slices.Clone(a), mark), append(slices.Clone(b), mark)
			check(c[:len(a)], d[:len(b)], toBig(a), toBig(b))
			if !slices.Equal(c, append(slices.Clone(a), mark)) || !slices.Equal(d, append(slices.Clone(b), mark)) {
				t.Fatalf("%v and %v are now %v and %v", a, b, c, d)
			}
		}
	}
}

// wreck writes over an answer and its room, which nobody else may have.
func wreck(a []uint64) {
	for i := range a[:cap(a)] {
		a[:cap(a)][i] = 0xbad
	}
}

func TestSumsAndProducts(t *testing.T) {
	pairs(t, func(a, b []uint64, x, y *big.Int) {
		if limbs.Cmp(a, b) != x.Cmp(y) {
			t.Fatalf("Cmp(%v, %v): %d", a, b, limbs.Cmp(a, b))
		}
		sum := limbs.Add(a, b)
		if !same(sum, new(big.Int).Add(x, y)) {
			t.Fatalf("Add(%v, %v): %v", a, b, sum)
		}
		wreck(sum)
		if x.Cmp(y) >= 0 {
			rest := limbs.Sub(a, b)
			if !same(rest, new(big.Int).Sub(x, y)) {
				t.Fatalf("Sub(%v, %v): %v", a, b, rest)
			}
			wreck(rest)
		}
		want := new(big.Int).Mul(x, y)
		product, fits := limbs.Mul(a, b, len(a)+len(b))
		if !fits || !same(product, want) {
			t.Fatalf("Mul(%v, %v): %v", a, b, product)
		}
		wreck(product)
	})
}

func TestMulStopsWhereItHasNoRoom(t *testing.T) {
	pairs(t, func(a, b []uint64, x, y *big.Int) {
		size := (new(big.Int).Mul(x, y).BitLen() + 63) / 64
		if _, fits := limbs.Mul(a, b, size); !fits {
			t.Fatalf("Mul(%v, %v) of %d limbs does not fit in them", a, b, size)
		}
		if size == 0 {
			return
		}
		if product, fits := limbs.Mul(a, b, size-1); fits || len(product) != 0 {
			t.Fatalf("Mul(%v, %v) of %d limbs fits in one less", a, b, size)
		}
	})
}

func TestDivMod(t *testing.T) {
	pairs(t, func(a, b []uint64, x, y *big.Int) {
		if len(b) == 0 {
			return
		}
		q, r := limbs.DivMod(a, b)
		quotient, rest := new(big.Int).QuoRem(x, y, new(big.Int))
		if !same(q, quotient) || !same(r, rest) {
			t.Fatalf("DivMod(%v, %v): %v, %v", a, b, q, r)
		}
		wreck(q)
		if !same(r, rest) {
			t.Fatalf("DivMod(%v, %v): both answers share memory", a, b)
		}
		wreck(r)
		if len(b) == 1 {
			in := slices.Clone(a)
			left := limbs.DivideWord(in, b[0])
			if !same(limbs.Trim(in), quotient) || rest.Uint64() != left {
				t.Fatalf("DivideWord(%v, %d): %v, %d", a, b[0], in, left)
			}
		}
	})
}

func TestGcd(t *testing.T) {
	pairs(t, func(a, b []uint64, x, y *big.Int) {
		got := limbs.Gcd(a, b)
		if !same(got, new(big.Int).GCD(nil, nil, x, y)) {
			t.Fatalf("Gcd(%v, %v): %v", a, b, got)
		}
		wreck(got)
	})
}

func TestLowest(t *testing.T) {
	pairs(t, func(a, b []uint64, x, y *big.Int) {
		if len(b) == 0 {
			return
		}
		n, d := limbs.Lowest(a, b)
		want := new(big.Rat).SetFrac(x, y)
		if !same(n, want.Num()) || !same(d, want.Denom()) {
			t.Fatalf("Lowest(%v, %v): %v, %v", a, b, n, d)
		}
		wreck(n)
		if !same(d, want.Denom()) {
			t.Fatalf("Lowest(%v, %v): both answers share memory", a, b)
		}
		wreck(d)
		if limbs.IsOne(a) != (x.Cmp(big.NewInt(1)) == 0) {
			t.Fatalf("IsOne(%v): %v", a, limbs.IsOne(a))
		}
	})
}

// TestGcdOfMuchInCommon has pairs that end at a divisor of many limbs.
func TestGcdOfMuchInCommon(t *testing.T) {
	list := rows()
	for i, a := range list {
		for k := range 12 {
			b, c := list[(i*7+k*5+3)%len(list)], list[(i*3+k*11)%len(list)]
			x, _ := limbs.Mul(a, c, len(a)+len(c))
			y, _ := limbs.Mul(b, c, len(b)+len(c))
			if got := limbs.Gcd(x, y); !same(got, new(big.Int).GCD(nil, nil, toBig(x), toBig(y))) {
				t.Fatalf("Gcd(%v, %v): %v", x, y, got)
			}
		}
	}
}

// TestGcdOfSmallQuotients has neighbours of Fibonacci's row, on which Euclid's
// way takes the most steps, and two that lie close to them.
func TestGcdOfSmallQuotients(t *testing.T) {
	last, next := []uint64{1}, []uint64{1}
	for range 1500 {
		last, next = next, limbs.Add(last, next)
		for _, b := range [][]uint64{last, limbs.Add(last, []uint64{1}), limbs.Sub(last, []uint64{1})} {
			if got := limbs.Gcd(next, b); !same(got, new(big.Int).GCD(nil, nil, toBig(next), toBig(b))) {
				t.Fatalf("Gcd(%v, %v): %v", next, b, got)
			}
		}
	}
}

// TestGcdByHighBits has all short patterns of limbs at whose edges the highest
// bits are nearly not enough to tell the next quotient.
func TestGcdByHighBits(t *testing.T) {
	edges := []uint64{0, 1, 2, 1<<63 - 1, 1 << 63, 1<<63 + 1, math.MaxUint64}
	n := len(edges)
	for i := range n * n * n {
		a := limbs.Trim([]uint64{edges[i%n], edges[i/n%n], edges[i/n/n%n]})
		for k := range n * n * n {
			b := limbs.Trim([]uint64{edges[k%n], edges[k/n%n], edges[k/n/n%n]})
			if got := limbs.Gcd(a, b); !same(got, new(big.Int).GCD(nil, nil, toBig(a), toBig(b))) {
				t.Fatalf("Gcd(%v, %v): %v", a, b, got)
			}
		}
	}
}

func TestShifts(t *testing.T) {
	for _, a := range rows() {
		for _, n := range []int{0, 1, 63, 64, 65, 128, 500} {
			if up := limbs.ShiftUp(a, n); !same(limbs.Trim(up), new(big.Int).Lsh(toBig(a), uint(n))) {
				t.Fatalf("ShiftUp(%v, %d): %v", a, n, up)
			}
			if n < toBig(a).BitLen() {
				if down := limbs.ShiftDown(a, n); !same(limbs.Trim(down), new(big.Int).Rsh(toBig(a), uint(n))) {
					t.Fatalf("ShiftDown(%v, %d): %v", a, n, down)
				}
			}
		}
	}
}

func TestMulAdd(t *testing.T) {
	edges := []uint64{0, 1, 1 << 32, 1 << 63, math.MaxUint64 - 1, math.MaxUint64}
	for _, x := range edges {
		for _, y := range edges {
			for _, c := range edges {
				low, high := limbs.MulAdd(x, y, c, math.MaxUint64)
				top, bottom := bits.Mul64(x, y)
				want := toBig([]uint64{bottom, top})
				want.Add(want, toBig([]uint64{c})).Add(want, toBig([]uint64{math.MaxUint64}))
				if toBig([]uint64{low, high}).Cmp(want) != 0 {
					t.Fatalf("MulAdd(%d, %d, %d, most): %d, %d", x, y, c, low, high)
				}
			}
		}
	}
}
