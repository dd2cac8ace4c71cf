package nat_test

import (
	"slices"
	"testing"

	"theodolite/nat"
)

// P1.3

// mark is what stands in spare room, to see whether it is written to.
const mark = 0xdead

// withRoom is a copy of a number that has spare room behind it.
func withRoom(a []uint64) []uint64 {
	room := append(slices.Clone(a), mark, mark, mark)
	return room[:len(a)]
}

// kept tells whether a copy that withRoom made is as it was, its room too.
func kept(a, was []uint64) bool {
	return slices.Equal(a, was) && slices.Equal(a[len(a):len(a)+3], []uint64{mark, mark, mark})
}

// spoil writes over an answer and over all its room.
func spoil(a []uint64) {
	a = a[:cap(a)]
	for i := range a {
		a[i] = mark
	}
}

// answers are the lists that one call answers.
type answers func(a, b []uint64) [][]uint64

func calls() map[string]answers {
	return map[string]answers{
		"Add":   func(a, b []uint64) [][]uint64 { c, _ := nat.Add(a, b); return [][]uint64{c} },
		"Sub":   func(a, b []uint64) [][]uint64 { c, _ := nat.Sub(a, b); return [][]uint64{c} },
		"Mul":   func(a, b []uint64) [][]uint64 { c, _ := nat.Mul(a, b); return [][]uint64{c} },
		"Gcd":   func(a, b []uint64) [][]uint64 { c, _ := nat.Gcd(a, b); return [][]uint64{c} },
		"Mod":   func(a, b []uint64) [][]uint64 { q, r, _ := nat.DivMod(a, b); return [][]uint64{q, r} },
		"Up":    func(a, b []uint64) [][]uint64 { c, _ := nat.Shift(a, 67); return [][]uint64{c} },
		"Same":  func(a, b []uint64) [][]uint64 { c, _ := nat.Shift(a, 0); return [][]uint64{c} },
		"Down":  func(a, b []uint64) [][]uint64 { c, _ := nat.Shift(a, -64); return [][]uint64{c} },
		"Of":    func(a, b []uint64) [][]uint64 { return [][]uint64{nat.Of(len(a))} },
		"Parse": func(a, b []uint64) [][]uint64 { c, _ := nat.Parse(nat.Text(a)); return [][]uint64{c} },
		"None": func(a, b []uint64) [][]uint64 {
			nat.Valid(a)
			nat.Cmp(a, b)
			nat.Bits(a)
			return nil
		},
	}
}

func copies(list [][]uint64) [][]uint64 {
	var c [][]uint64
	for _, a := range list {
		c = append(c, slices.Clone(a))
	}
	return c
}

func TestMemory(t *testing.T) {
	list := [][]uint64{nil, {1}, {7}, {mark}, {0, 1}, {5, 6, 7}, {0, 0, 0, 9}, most()[:31], power(64 * 40), most()}
	for name, call := range calls() {
		for _, x := range list {
			for _, y := range list {
				a, b := withRoom(x), withRoom(y)
				got := call(a, b)
				want := copies(got)
				for i := range got {
					spoil(got[i])
					for k := i + 1; k < len(got); k++ {
						if !slices.Equal(got[k], want[k]) {
							t.Fatalf("%s(%v, %v): two answers share memory", name, x, y)
						}
					}
				}
				if !kept(a, x) || !kept(b, y) {
					t.Fatalf("%s(%v, %v): what was handed in is now %v, %v", name, x, y, a, b)
				}
				if again := call(a, b); !slices.EqualFunc(again, want, slices.Equal) {
					t.Fatalf("%s(%v, %v): %v, and later %v", name, x, y, want, again)
				}
			}
		}
	}
}

func TestMemoryOfOne(t *testing.T) {
	for name, call := range calls() {
		for _, x := range [][]uint64{{1}, {5, 6, 7}, most()[:31]} {
			a := withRoom(x)
			for _, answer := range call(a, a) {
				spoil(answer)
			}
			if !kept(a, x) {
				t.Errorf("%s of %v twice: it is now %v", name, x, a)
			}
		}
	}
}
