package atom_test

import (
	"slices"
	"testing"

	"theodolite/api"
	"theodolite/atom"
)

const mark = 0xdead

// roomy is a copy of limbs with spare room behind it, which is marked.
func roomy(limbs []uint64) []uint64 {
	return append(slices.Clone(limbs), mark, mark)[:len(limbs)]
}

func roomyRat(a api.Rat) api.Rat {
	return api.Rat{Neg: a.Neg, Num: roomy(a.Num), Den: roomy(a.Den)}
}

// roomySum is a copy of a sum with spare room behind all its lists.
func roomySum(p api.Poly) api.Poly {
	parts := make([]api.Part, 0, len(p.Parts)+2)
	for _, x := range p.Parts {
		parts = append(parts, api.Part{Coef: roomyRat(x.Coef), Term: x.Term})
	}
	parts = append(parts, api.Part{Term: mark}, api.Part{Term: mark})
	return api.Poly{Parts: parts[:len(p.Parts)], Const: roomyRat(p.Const)}
}

// limbs is all lists of limbs of a sum.
func limbs(p api.Poly) [][]uint64 {
	all := [][]uint64{p.Const.Num, p.Const.Den}
	for _, x := range p.Parts {
		all = append(all, x.Coef.Num, x.Coef.Den)
	}
	return all
}

// untouched wants that a sum is as it was, and its room marked.
func untouched(t *testing.T, what string, p, was api.Poly) {
	t.Helper()
	if sumText(p) != sumText(was) {
		t.Errorf("P9.3: %s: what was handed in is %.100s", what, sumText(p))
	}
	room := p.Parts[:len(p.Parts)+2]
	if room[len(p.Parts)].Term != mark || room[len(p.Parts)+1].Term != mark {
		t.Errorf("P9.3: %s: room behind parts was written to", what)
	}
	for _, list := range limbs(p) {
		if list := list[:len(list)+2]; list[len(list)-1] != mark || list[len(list)-2] != mark {
			t.Errorf("P9.3: %s: room behind limbs was written to", what)
		}
	}
}

// spoil writes over limbs and over all their room.
func spoil(list []uint64) {
	list = list[:cap(list)]
	for k := range list {
		list[k] = mark
	}
}

// apart wants that no two lists of an answer share memory.
func apart(t *testing.T, what string, p api.Poly) {
	t.Helper()
	all := limbs(p)
	others := func(k int) (list []uint64) {
		for o, other := range all {
			if o != k {
				list = append(list, other...)
			}
		}
		return list
	}
	for k, list := range all {
		was, before := slices.Clone(list), others(k)
		spoil(list)
		if !slices.Equal(before, others(k)) {
			t.Errorf("P9.3: %s: lists of an answer share memory", what)
		}
		copy(list, was)
	}
}

// wreck writes over all of an answer.
func wreck(p api.Poly) {
	for _, list := range limbs(p) {
		spoil(list)
	}
	parts := p.Parts[:cap(p.Parts)]
	for k := range parts {
		parts[k] = api.Part{Term: mark}
	}
}

// handed wants of calls with a sum that they leave it alone, and that what they
// answer is their own.
func handed(t *testing.T, p api.Poly, calls map[string]func(p api.Poly) api.Poly) {
	t.Helper()
	for what, call := range calls {
		a := roomySum(p)
		got := call(a)
		apart(t, what, got)
		want := sumText(got)
		next := call(a)
		wreck(got)
		untouched(t, what, a, p)
		if sumText(next) != want || sumText(call(a)) != want {
			t.Errorf("P9.3: %s: %.100s; want %.100s", what, sumText(next), want)
		}
	}
}

func TestWhatMakeIsHandedIn(t *testing.T) {
	for _, p := range append(sums(), noSums()...) {
		for _, kind := range append([]int{api.LeZero, api.LtZero, api.EqZero, api.NeZero}, noKinds()...) {
			handed(t, p, map[string]func(p api.Poly) api.Poly{
				"Make": func(p api.Poly) api.Poly { a, _, _ := atom.Make(kind, p); return a.Poly },
			})
		}
	}
}

func TestWhatIsHandedIn(t *testing.T) {
	for _, a := range slices.Concat(atomsOfSums(), otherAtoms(), noAtoms()) {
		with := func(p api.Poly) api.Atom { return api.Atom{Kind: a.Kind, Poly: p, A: a.A, B: a.B} }
		handed(t, a.Poly, map[string]func(p api.Poly) api.Poly{
			"Not":     func(p api.Poly) api.Poly { b, _ := atom.Not(with(p)); return b.Poly },
			"Valid":   func(p api.Poly) api.Poly { atom.Valid(with(p)); return api.Poly{} },
			"Trivial": func(p api.Poly) api.Poly { atom.Trivial(with(p)); return api.Poly{} },
			"Same":    func(p api.Poly) api.Poly { atom.Same(with(p), with(p)); return api.Poly{} },
			"Holds":   func(p api.Poly) api.Poly { atom.Holds(with(p), at0); return api.Poly{} },
		})
	}
}

// TestWhatHoldsIsTold: numbers that a function keeps are not written to.
func TestWhatHoldsIsTold(t *testing.T) {
	kept := roomySum(sum("5", 0, "-7/3", 2, "0"))
	told := func(id int) api.Rat {
		for _, x := range kept.Parts {
			if x.Term == id {
				return x.Coef
			}
		}
		return api.Rat{}
	}
	for _, kind := range kinds() {
		for _, p := range []api.Poly{sum("1", 0, "1", 2, "0"), sum("1", 0, "0"), sum("1", 2, "7/3"), sum("1", 1, "0")} {
			atom.Holds(api.Atom{Kind: kind, Poly: p}, told)
			untouched(t, "Holds", kept, sum("5", 0, "-7/3", 2, "0"))
		}
	}
}
