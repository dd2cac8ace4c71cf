package rat_test

import (
	"slices"
	"testing"

	"theodolite/api"
	"theodolite/rat"
)

// P3.3

// mark is what stands in spare room, to see whether it is written to.
const mark = 0xdead

// withRoom is a copy of a row of limbs that has spare room behind it.
func withRoom(a []uint64) []uint64 {
	return append(slices.Clone(a), mark, mark)[:len(a)]
}

func roomy(a api.Rat) api.Rat {
	return api.Rat{Neg: a.Neg, Num: withRoom(a.Num), Den: withRoom(a.Den)}
}

// kept tells whether a copy that roomy made is as it was, its room too.
func kept(a, was api.Rat) bool {
	room := []uint64{mark, mark}
	return equal(a, was) && slices.Equal(a.Num[len(a.Num):][:2], room) && slices.Equal(a.Den[len(a.Den):][:2], room)
}

// calls are all that take a fraction, with the lists that they answer.
func calls() map[string]func(a, b api.Rat) [][]uint64 {
	lists := func(a api.Rat, _ api.Errno) [][]uint64 { return [][]uint64{a.Num, a.Den} }
	return map[string]func(a, b api.Rat) [][]uint64{
		"New": func(a, b api.Rat) [][]uint64 {
			return lists(rat.New(api.Int{Neg: a.Neg, N: a.Num}, api.Int{Neg: b.Neg, N: b.Num}))
		},
		"Neg":     func(a, _ api.Rat) [][]uint64 { return lists(rat.Neg(a), 0) },
		"Add":     func(a, b api.Rat) [][]uint64 { return lists(rat.Add(a, b)) },
		"Sub":     func(a, b api.Rat) [][]uint64 { return lists(rat.Sub(a, b)) },
		"Mul":     func(a, b api.Rat) [][]uint64 { return lists(rat.Mul(a, b)) },
		"Quo":     func(a, b api.Rat) [][]uint64 { return lists(rat.Quo(a, b)) },
		"Between": func(a, b api.Rat) [][]uint64 { return lists(rat.Between(a, b)) },
		"Floor":   func(a, _ api.Rat) [][]uint64 { return [][]uint64{rat.Floor(a).N} },
		"Parse":   func(a, _ api.Rat) [][]uint64 { return lists(rat.Parse(rat.Text(a))) },
		"Of":      func(a, b api.Rat) [][]uint64 { return lists(rat.Of(len(a.Num), len(b.Num)), 0) },
		"none": func(a, b api.Rat) [][]uint64 {
			rat.Valid(a)
			rat.Sign(a)
			rat.Cmp(a, b)
			return nil
		},
	}
}

// handed are fractions, and some that are none, of which one call or another
// could answer a part of what it was handed.
func handed() []api.Rat {
	list := none()
	for _, x := range [][2]int64{{0, 1}, {1, 1}, {-1, 1}, {2, 1}, {-5, 1}, {1, 2}, {-1, 2}, {3, 7}, {-7, 3}, {1, 3}} {
		list = append(list, of(small(x[0], x[1])))
	}
	return append(list, of(by(power(700), most())), of(by(most(), power(700))), of(by(power(70), power(0))))
}

func copies(lists [][]uint64) [][]uint64 {
	var c [][]uint64
	for _, a := range lists {
		c = append(c, slices.Clone(a))
	}
	return c
}

// spoil writes over a list and over all its room.
func spoil(a []uint64) {
	a = a[:cap(a)]
	for i := range a {
		a[i] = mark
	}
}

func same(a, b [][]uint64) bool { return slices.EqualFunc(a, b, slices.Equal) }

func TestMemory(t *testing.T) {
	for name, call := range calls() {
		for _, x := range handed() {
			for _, y := range handed() {
				a, b := roomy(x), roomy(y)
				got := call(a, b)
				want := copies(got)
				for i := range got {
					spoil(got[i])
					if !same(got[i+1:], want[i+1:]) {
						t.Fatalf("%s(%v, %v): two lists share memory", name, x, y)
					}
				}
				if !kept(a, x) || !kept(b, y) {
					t.Fatalf("%s(%v, %v): what was handed in is now %v, %v", name, x, y, a, b)
				}
				if again := call(a, b); !same(again, want) {
					t.Fatalf("%s(%v, %v): %v, and later %v", name, x, y, want, again)
				}
			}
		}
	}
}

func TestMemoryOfOneNumberTwice(t *testing.T) {
	for name, call := range calls() {
		for _, x := range handed() {
			a := roomy(x)
			for _, list := range call(a, a) {
				spoil(list)
			}
			if !kept(a, x) {
				t.Errorf("%s of %v twice: it is now %v", name, x, a)
			}
		}
	}
}
