package quick_test

import (
	"slices"
	"testing"

	"theodolite/api"
	"theodolite/quick"
)

// P5.2

func TestSureIsSo(t *testing.T) {
	list := numbers()
	for k := 0; k < len(list); k += 29 {
		for i := k % 11; i < len(list); i += 11 {
			x, y := list[k], list[i]
			a, b := quick.Of(of(x)), quick.Of(of(y))
			less, sure := quick.Less(a, b)
			if sure && less != (x.Cmp(y) < 0) || less && !sure {
				t.Fatalf("Less of %v and %v: %t, %t", x, y, less, sure)
			}
			if sum := quick.Add(a, b); order(real(sum), add(x, y)) > 0 || order(imag(sum), add(x, y)) < 0 {
				t.Fatalf("Add of %v and %v: %v", x, y, sum)
			}
			if quick.Exact(a) != (order(real(a), x) == 0) {
				t.Fatalf("Exact of %v: %t", x, quick.Exact(a))
			}
		}
	}
}

// mark is what stands in spare room, to see whether it is written to.
const mark = 0xdead

// withRoom is a copy of a row of limbs that has spare room behind it.
func withRoom(a []uint64) []uint64 {
	return append(slices.Clone(a), mark, mark)[:len(a)]
}

func kept(a, was []uint64) bool {
	return slices.Equal(a, was) && slices.Equal(a[len(a):][:2], []uint64{mark, mark})
}

func TestMemory(t *testing.T) {
	for _, x := range numbers() {
		want := of(x)
		a := api.Rat{Neg: want.Neg, Num: withRoom(want.Num), Den: withRoom(want.Den)}
		c := quick.Of(a)
		if a.Neg != want.Neg || !kept(a.Num, want.Num) || !kept(a.Den, want.Den) {
			t.Fatalf("Of(%v): what was handed in is now %v", x, a)
		}
		if again := quick.Of(a); again != c {
			t.Fatalf("Of(%v): %v, and later %v", x, c, again)
		}
	}
}

// spoil writes over a list and over all its room.
func spoil(a []uint64) {
	for i := range a[:cap(a)] {
		a[:cap(a)][i] = mark
	}
}

func TestMemoryOfBack(t *testing.T) {
	for _, f := range floats() {
		want := of(exact(f))
		a, _ := quick.Back(f)
		spoil(a.Num)
		if !slices.Equal(a.Den, want.Den) {
			t.Fatalf("Back(%v): its lists share memory", f)
		}
		spoil(a.Den)
		if again, _ := quick.Back(f); !slices.Equal(again.Num, want.Num) || !slices.Equal(again.Den, want.Den) {
			t.Fatalf("Back(%v): later %v", f, again)
		}
	}
}
