package whole_test

import (
	"math"
	"slices"
	"testing"

	"theodolite/api"
	"theodolite/whole"
)

// P2.3

// mark is what stands in spare room, to see whether it is written to.
const mark = 0xdead

// withRoom is a copy of a number that has spare room behind it.
func withRoom(a api.Int) api.Int {
	n := len(a.N)
	return api.Int{Neg: a.Neg, N: append(slices.Clone(a.N), mark, mark)[:n]}
}

// kept tells whether a copy that withRoom made is as it was, its room too.
func kept(a, was api.Int) bool {
	return equal(a, was) && slices.Equal(a.N[len(a.N):][:2], []uint64{mark, mark})
}

// spoil writes over an answer and over all its room.
func spoil(a api.Int) {
	limbs := a.N[:cap(a.N)]
	for i := range limbs {
		limbs[i] = mark
	}
}

// first is an answer without its error.
func first(a api.Int, _ api.Errno) []api.Int { return []api.Int{a} }

// calls are all that take a number, with the numbers that they answer.
func calls() map[string]func(a, b api.Int) []api.Int {
	return map[string]func(a, b api.Int) []api.Int{
		"Neg": func(a, _ api.Int) []api.Int { return []api.Int{whole.Neg(a)} },
		"Add": func(a, b api.Int) []api.Int { return first(whole.Add(a, b)) },
		"Sub": func(a, b api.Int) []api.Int { return first(whole.Sub(a, b)) },
		"Mul": func(a, b api.Int) []api.Int { return first(whole.Mul(a, b)) },
		"Div": func(a, b api.Int) []api.Int { q, r, _ := whole.Div(a, b); return []api.Int{q, r} },
		"of texts and ints": func(a, b api.Int) []api.Int {
			n, _ := whole.Value(b)
			return append(first(whole.Parse(whole.Text(a))), whole.Of(n))
		},
		"none": func(a, b api.Int) []api.Int {
			whole.Valid(a)
			whole.Sign(a)
			whole.Cmp(a, b)
			return nil
		},
	}
}

// handed are numbers, and some that are none, of sizes of which one call or
// another could answer what it was handed.
func handed() []api.Int {
	list := none()
	for _, limbs := range [][]uint64{{1}, {2}, {7}, {5, 6, 7}, {0, 0, 9}, {0, 1}, slices.Repeat([]uint64{math.MaxUint64}, 31), slices.Repeat([]uint64{math.MaxUint64}, 64)} {
		list = append(list, api.Int{N: limbs}, api.Int{Neg: true, N: limbs})
	}
	return append(list, api.Int{})
}

func copies(list []api.Int) []api.Int {
	var c []api.Int
	for _, a := range list {
		c = append(c, api.Int{Neg: a.Neg, N: slices.Clone(a.N)})
	}
	return c
}

func TestMemory(t *testing.T) {
	for name, call := range calls() {
		for _, x := range handed() {
			for _, y := range handed() {
				a, b := withRoom(x), withRoom(y)
				got := call(a, b)
				want := copies(got)
				for i := range got {
					spoil(got[i])
					if !slices.EqualFunc(got[i+1:], want[i+1:], equal) {
						t.Fatalf("%s(%v, %v): two answers share memory", name, x, y)
					}
				}
				if !kept(a, x) || !kept(b, y) {
					t.Fatalf("%s(%v, %v): what was handed in is now %v, %v", name, x, y, a, b)
				}
				if again := call(a, b); !slices.EqualFunc(again, want, equal) {
					t.Fatalf("%s(%v, %v): %v, and later %v", name, x, y, want, again)
				}
			}
		}
	}
}

func TestMemoryOfOneNumberTwice(t *testing.T) {
	for name, call := range calls() {
		for _, x := range handed() {
			a := withRoom(x)
			for _, answer := range call(a, a) {
				spoil(answer)
			}
			if !kept(a, x) {
				t.Errorf("%s of %v twice: it is now %v", name, x, a)
			}
		}
	}
}
