package whole_test

import (
	"math"
	"math/big"
	"slices"
	"testing"

	"theodolite/api"
	"theodolite/whole"
)

// limit is the least size that has a limb too many.
func limit() *big.Int { return new(big.Int).Lsh(big.NewInt(1), 64*api.MaxLimbs) }

// of is a number of the library as one of package api.
func of(z *big.Int) api.Int {
	a := api.Int{Neg: z.Sign() < 0}
	low := new(big.Int).SetUint64(math.MaxUint64)
	for size := new(big.Int).Abs(z); size.Sign() > 0; size.Rsh(size, 64) {
		a.N = append(a.N, new(big.Int).And(size, low).Uint64())
	}
	return a
}

// sizes are numbers from 0 on, at whose limbs carries and borrows go on, and
// some that have nothing to them.
func sizes() []*big.Int {
	list := []*big.Int{big.NewInt(0)}
	for _, n := range []int64{1, 2, 3, 5, 7, 10, 1e18, math.MaxInt64} {
		list = append(list, big.NewInt(n))
	}
	for _, bits := range []uint{63, 64, 65, 127, 128, 191, 192, 2047, 2048, 4032, 4095} {
		power := new(big.Int).Lsh(big.NewInt(1), bits)
		for _, d := range []int64{-1, 0, 1} {
			list = append(list, new(big.Int).Add(power, big.NewInt(d)))
		}
	}
	mixed := big.NewInt(1)
	for range 40 {
		mixed = new(big.Int).Add(new(big.Int).Mul(mixed, big.NewInt(0x5deece66d1234577)), big.NewInt(11))
		list = append(list, mixed)
	}
	return append(list, new(big.Int).Sub(limit(), big.NewInt(1)), new(big.Int).Sub(limit(), big.NewInt(2)))
}

// numbers are the sizes, each with either sign.
func numbers() []*big.Int {
	var list []*big.Int
	for _, z := range sizes() {
		list = append(list, z)
		if z.Sign() > 0 {
			list = append(list, new(big.Int).Neg(z))
		}
	}
	return list
}

// none are those that are not Valid.
func none() []api.Int {
	list := []api.Int{{Neg: true}, {Neg: true, N: []uint64{}}}
	long := slices.Repeat([]uint64{math.MaxUint64}, api.MaxLimbs+1)
	for _, limbs := range [][]uint64{{0}, {1, 0}, {0, 0}, make([]uint64, api.MaxLimbs), append(long[:3:3], 0), long, append(long[:64:64], 0)} {
		list = append(list, api.Int{N: limbs}, api.Int{Neg: true, N: limbs})
	}
	return list
}

// equal tells whether two are the same, nil and an empty list too.
func equal(a, b api.Int) bool { return a.Neg == b.Neg && slices.Equal(a.N, b.N) }

func zero(a api.Int) bool { return equal(a, api.Int{}) }

// right tells whether an answer is the number that the library works out, or
// ErrBig where that has too many limbs.
func right(got api.Int, e api.Errno, want *big.Int) bool {
	if want.CmpAbs(limit()) >= 0 {
		return e == api.ErrBig && zero(got)
	}
	return e == api.OK && equal(got, of(want))
}

// pairs asks check of each two of the numbers.
func pairs(check func(x, y *big.Int, a, b api.Int)) {
	list := numbers()
	for _, x := range list {
		for _, y := range list {
			check(x, y, of(x), of(y))
		}
	}
}

// P2.1

func TestValid(t *testing.T) {
	for _, z := range numbers() {
		if !whole.Valid(of(z)) {
			t.Errorf("%v is a number", z)
		}
	}
	if !whole.Valid(api.Int{N: []uint64{}}) {
		t.Error("0, of an empty list, is a number")
	}
	for _, a := range none() {
		if whole.Valid(a) {
			t.Errorf("%v is no number", a)
		}
	}
}

func TestOfAndValue(t *testing.T) {
	for _, n := range []int{0, 1, -1, 2, -2, -7, 1e18, -1e18, math.MaxInt32, math.MinInt32, math.MaxInt - 1, math.MaxInt, math.MinInt, math.MinInt + 1} {
		a := whole.Of(n)
		if !equal(a, of(big.NewInt(int64(n)))) {
			t.Errorf("Of(%d): %v", n, a)
		}
		if back, ok := whole.Value(a); back != n || !ok {
			t.Errorf("Value of %d: %d, %t", n, back, ok)
		}
	}
}

func TestValueOfGreatOnes(t *testing.T) {
	for _, z := range numbers() {
		n, ok := whole.Value(of(z))
		if ok != z.IsInt64() || ok && int64(n) != z.Int64() || !ok && n != 0 {
			t.Errorf("Value(%v): %d, %t", z, n, ok)
		}
	}
	for _, size := range []uint64{1<<63 + 1, 1<<63 + 2, math.MaxUint64} {
		for _, neg := range []bool{false, true} {
			if n, ok := whole.Value(api.Int{Neg: neg, N: []uint64{size}}); n != 0 || ok {
				t.Errorf("Value of %d, below 0 %t: %d, %t", size, neg, n, ok)
			}
		}
	}
	if n, ok := whole.Value(api.Int{N: []uint64{1 << 63}}); n != 0 || ok {
		t.Errorf("Value of one beyond the greatest: %d, %t", n, ok)
	}
	for _, a := range none() {
		if n, ok := whole.Value(a); n != 0 || ok {
			t.Errorf("Value(%v): %d, %t", a, n, ok)
		}
	}
}

func TestCmpAndSign(t *testing.T) {
	pairs(func(x, y *big.Int, a, b api.Int) {
		if got, want := whole.Cmp(a, b), x.Cmp(y); got != want {
			t.Fatalf("Cmp(%v, %v): %d, not %d", x, y, got, want)
		}
	})
	for _, z := range numbers() {
		if got, want := whole.Sign(of(z)), z.Sign(); got != want {
			t.Errorf("Sign(%v): %d, not %d", z, got, want)
		}
	}
	for _, a := range none() {
		for _, n := range []int{-1, 0, 1} {
			if whole.Cmp(a, whole.Of(n)) != 0 || whole.Cmp(whole.Of(n), a) != 0 || whole.Cmp(a, a) != 0 {
				t.Errorf("Cmp of %v, which is no number, and %d is not 0", a, n)
			}
		}
		if whole.Sign(a) != 0 {
			t.Errorf("Sign(%v): %d", a, whole.Sign(a))
		}
	}
}

func TestNeg(t *testing.T) {
	for _, z := range numbers() {
		if got := whole.Neg(of(z)); !equal(got, of(new(big.Int).Neg(z))) {
			t.Errorf("Neg(%v): %v", z, got)
		}
	}
	for _, a := range none() {
		if got := whole.Neg(a); !zero(got) {
			t.Errorf("Neg(%v): %v", a, got)
		}
	}
}

func TestSums(t *testing.T) {
	pairs(func(x, y *big.Int, a, b api.Int) {
		if c, e := whole.Add(a, b); !right(c, e, new(big.Int).Add(x, y)) {
			t.Fatalf("Add(%v, %v): %v, %d", x, y, c, e)
		}
		if c, e := whole.Sub(a, b); !right(c, e, new(big.Int).Sub(x, y)) {
			t.Fatalf("Sub(%v, %v): %v, %d", x, y, c, e)
		}
		if c, e := whole.Mul(a, b); !right(c, e, new(big.Int).Mul(x, y)) {
			t.Fatalf("Mul(%v, %v): %v, %d", x, y, c, e)
		}
	})
}

// floor is the library's division, by a divisor that is not 0, as the document
// has it: the library's own goes toward 0.
func floor(x, y *big.Int) (q, r *big.Int) {
	q, r = new(big.Int).QuoRem(x, y, new(big.Int))
	if r.Sign() != 0 && r.Sign() != y.Sign() {
		q.Sub(q, big.NewInt(1))
		r.Add(r, y)
	}
	return q, r
}

func TestDiv(t *testing.T) {
	pairs(func(x, y *big.Int, a, b api.Int) {
		q, r, e := whole.Div(a, b)
		if y.Sign() == 0 {
			if e != api.ErrArg || !zero(q) || !zero(r) {
				t.Fatalf("Div(%v, 0): %v, %v, %d", x, q, r, e)
			}
			return
		}
		wantQ, wantR := floor(x, y)
		if !right(q, e, wantQ) || !right(r, e, wantR) {
			t.Fatalf("Div(%v, %v): %v, %v, %d", x, y, q, r, e)
		}
	})
}

func TestDivOfEachPairOfSigns(t *testing.T) {
	for _, c := range [][4]int{
		{7, 2, 3, 1}, {-7, 2, -4, 1}, {7, -2, -4, -1}, {-7, -2, 3, -1},
		{6, 2, 3, 0}, {-6, 2, -3, 0}, {6, -2, -3, 0}, {-6, -2, 3, 0},
		{1, 5, 0, 1}, {-1, 5, -1, 4}, {1, -5, -1, -4}, {-1, -5, 0, -1},
		{0, 5, 0, 0}, {0, -5, 0, 0}, {5, -5, -1, 0}, {math.MinInt, 1, math.MinInt, 0},
	} {
		q, r, e := whole.Div(whole.Of(c[0]), whole.Of(c[1]))
		if e != api.OK || !equal(q, whole.Of(c[2])) || !equal(r, whole.Of(c[3])) {
			t.Errorf("Div(%d, %d): %v, %v, %d", c[0], c[1], q, r, e)
		}
	}
	// The only quotient of two ints that is none.
	q, r, e := whole.Div(whole.Of(math.MinInt), whole.Of(-1))
	if e != api.OK || !equal(q, api.Int{N: []uint64{1 << 63}}) || !zero(r) {
		t.Errorf("Div of the least int and -1: %v, %v, %d", q, r, e)
	}
}

func TestNoNumberIsRefused(t *testing.T) {
	calls := map[string]func(a, b api.Int) (api.Int, api.Errno){
		"Add": whole.Add, "Sub": whole.Sub, "Mul": whole.Mul,
		"Div's q": func(a, b api.Int) (api.Int, api.Errno) { q, _, e := whole.Div(a, b); return q, e },
		"Div's r": func(a, b api.Int) (api.Int, api.Errno) { _, r, e := whole.Div(a, b); return r, e },
	}
	most := new(big.Int).Sub(limit(), big.NewInt(1))
	good := []api.Int{{}, whole.Of(1), whole.Of(-1), of(most), of(new(big.Int).Neg(most))}
	for name, call := range calls {
		for _, bad := range none() {
			for _, other := range append(good, bad) {
				if c, e := call(bad, other); e != api.ErrArg || !zero(c) {
					t.Errorf("%s(%v, %v): %v, %d", name, bad, other, c, e)
				}
				if c, e := call(other, bad); e != api.ErrArg || !zero(c) {
					t.Errorf("%s(%v, %v): %v, %d", name, other, bad, c, e)
				}
			}
		}
	}
}
