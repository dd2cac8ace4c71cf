package decimal_test

import (
	"math/big"
	"slices"
	"testing"

	"theodolite/api"
	"theodolite/decimal"
)

// P4.2

// mark is what stands in spare room, to see whether it is written to.
const mark = 0xdead

// withRoom is a copy of a row of limbs that has spare room behind it.
func withRoom(a []uint64) []uint64 {
	return append(slices.Clone(a), mark, mark)[:len(a)]
}

func TestNothingHandedInIsChanged(t *testing.T) {
	list := none()
	for _, x := range append(long(), small(0, 1), small(1, 1), small(-1, 1), small(3, 2), small(1, 3), small(-7, 5)) {
		list = append(list, of(x))
	}
	room := []uint64{mark, mark}
	for _, was := range list {
		a := api.Rat{Neg: was.Neg, Num: withRoom(was.Num), Den: withRoom(was.Den)}
		show := decimal.Show(a)
		exact, ok := decimal.Exact(a)
		if !equal(a, was) || !slices.Equal(a.Num[len(a.Num):][:2], room) || !slices.Equal(a.Den[len(a.Den):][:2], room) {
			t.Fatalf("%v is now %v", was, a)
		}
		again, still := decimal.Exact(was)
		if decimal.Show(was) != show || again != exact || still != ok {
			t.Fatalf("%v is shown otherwise the second time", was)
		}
	}
}

// spoil writes over a list and over all its room.
func spoil(a []uint64) {
	a = a[:cap(a)]
	for i := range a {
		a[i] = mark
	}
}

func TestAnswersAreNewMemory(t *testing.T) {
	half := by(big.NewInt(1), power(2, 700)).FloatString(700)
	for _, s := range []string{"0", "0.0", "1", "1.0", "5", "0.5", "0.1", "12.25", "18446744073709551616", "0.00000000000000000000001", half, most().String()} {
		first, _ := decimal.Parse(s)
		num, den := slices.Clone(first.Num), slices.Clone(first.Den)
		spoil(first.Num)
		if !slices.Equal(first.Den, den) {
			t.Errorf("Parse(%q): its two lists share memory", s)
		}
		spoil(first.Den)
		if again, e := decimal.Parse(s); e != api.OK || !slices.Equal(again.Num, num) || !slices.Equal(again.Den, den) {
			t.Errorf("Parse(%q): %v, %d the second time", s, again, e)
		}
	}
}
