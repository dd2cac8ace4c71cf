package linear_test

import (
	"slices"
	"testing"

	"theodolite/api"
	"theodolite/linear"
)

const mark = 0xdead

// roomy is a copy of limbs with spare room behind it, which is marked.
func roomy(limbs []uint64) []uint64 {
	return append(slices.Clone(limbs), mark, mark)[:len(limbs)]
}

func roomyRat(a api.Rat) api.Rat {
	return api.Rat{Neg: a.Neg, Num: roomy(a.Num), Den: roomy(a.Den)}
}

// roomySum is a copy of a sum with spare room behind all its lists.
func roomySum(p api.Poly) api.Poly {
	parts := make([]api.Part, 0, len(p.Parts)+2)
	for _, x := range p.Parts {
		parts = append(parts, api.Part{Coef: roomyRat(x.Coef), Term: x.Term})
	}
	parts = append(parts, api.Part{Term: mark}, api.Part{Term: mark})
	return api.Poly{Parts: parts[:len(p.Parts)], Const: roomyRat(p.Const)}
}

// limbs is all lists of limbs of a sum.
func limbs(p api.Poly) [][]uint64 {
	all := [][]uint64{p.Const.Num, p.Const.Den}
	for _, x := range p.Parts {
		all = append(all, x.Coef.Num, x.Coef.Den)
	}
	return all
}

// untouched wants that a sum is as it was, and its room marked.
func untouched(t *testing.T, what string, p, was api.Poly) {
	t.Helper()
	if text(p) != text(was) {
		t.Errorf("P8.3: %s: what was handed in is %s", what, text(p))
	}
	room := p.Parts[:len(p.Parts)+2]
	if room[len(p.Parts)].Term != mark || room[len(p.Parts)+1].Term != mark {
		t.Errorf("P8.3: %s: room behind parts was written to", what)
	}
	for _, list := range limbs(p) {
		if list := list[:len(list)+2]; list[len(list)-1] != mark || list[len(list)-2] != mark {
			t.Errorf("P8.3: %s: room behind limbs was written to", what)
		}
	}
}

// spoil writes over limbs and over all their room.
func spoil(list []uint64) {
	list = list[:cap(list)]
	for k := range list {
		list[k] = mark
	}
}

// apart wants that no two lists of an answer share memory.
func apart(t *testing.T, what string, p api.Poly) {
	t.Helper()
	all := limbs(p)
	for k, list := range all {
		var others []uint64
		for o, other := range all {
			if o != k {
				others = append(others, other...)
			}
		}
		was := slices.Clone(list)
		spoil(list)
		var now []uint64
		for o, other := range all {
			if o != k {
				now = append(now, other...)
			}
		}
		if !slices.Equal(others, now) {
			t.Errorf("P8.3: %s: lists of an answer share memory", what)
		}
		copy(list, was)
	}
}

// wreck writes over all of an answer.
func wreck(p api.Poly) {
	for _, list := range limbs(p) {
		spoil(list)
	}
	parts := p.Parts[:cap(p.Parts)]
	for k := range parts {
		parts[k] = api.Part{Term: mark}
	}
}

func TestWhatIsHandedIn(t *testing.T) {
	one := func(id int) api.Rat { return r("1") }
	list := append(sums(), noSums()...)
	for i, p := range list {
		for k, q := range list {
			a, b := roomySum(p), roomySum(q)
			number := roomyRat(q.Const)
			calls := map[string]func() api.Poly{
				"Add":   func() api.Poly { s, _ := linear.Add(a, b); return s },
				"Scale": func() api.Poly { s, _ := linear.Scale(a, number); return s },
				"Coef":  func() api.Poly { return api.Poly{Const: linear.Coef(a, 2)} },
				"Solve": func() api.Poly { s, _ := linear.Solve(a, 2); return s },
				"Value": func() api.Poly { v, _ := linear.Value(a, one); return api.Poly{Const: v} },
				"Valid": func() api.Poly { linear.Valid(a); return api.Poly{} },
				"Same":  func() api.Poly { linear.Same(a, b); return api.Poly{} },
			}
			for what, call := range calls {
				got := call()
				apart(t, what, got)
				wreck(got)
				untouched(t, what, a, p)
				untouched(t, what, b, q)
				untouched(t, what, api.Poly{Parts: roomySum(api.Poly{}).Parts, Const: number}, api.Poly{Const: q.Const})
			}
			if t.Failed() {
				t.Fatalf("of %d and %d", i, k)
			}
		}
	}
}

// TestWhatValueIsTold: numbers that a function keeps are not written to.
func TestWhatValueIsTold(t *testing.T) {
	kept := roomySum(sum("5", 0, "-7/3", 2, "0"))
	p := sum("1", 0, "1", 2, "0")
	of := func(id int) api.Rat {
		for _, x := range kept.Parts {
			if x.Term == id {
				return x.Coef
			}
		}
		return api.Rat{}
	}
	for _, p := range []api.Poly{p, sum("1", 0, "0"), sum("1", 2, "0"), sum("-3", 0, "1/2", 2, "9")} {
		got, _ := linear.Value(p, of)
		spoil(got.Num)
		spoil(got.Den)
		untouched(t, "Value", kept, sum("5", 0, "-7/3", 2, "0"))
	}
}

// TestOfKeepsNothing: what Of answers has nothing of the table, nor of another
// answer.
func TestOfKeepsNothing(t *testing.T) {
	m := start(t)
	x, half := m.app("x"), m.num("-1/2")
	ids := []int{x, half, m.op(api.Sub, x), m.op(api.Sub, half), m.op(api.Add, x, half), m.op(api.Add, x, half, x), m.op(api.Mul, half, x), m.op(api.Div, x, half), m.op(api.Add, half, m.op(api.Add, x, m.app("y")), m.app("z"))}
	for range 2 {
		for _, id := range ids {
			first, _ := linear.Of(m.x, id)
			second, _ := linear.Of(m.x, id)
			was := text(second)
			apart(t, "Of", first)
			wreck(first)
			third, _ := linear.Of(m.x, id)
			if text(second) != was || text(third) != was {
				t.Errorf("P8.3: Of %d: %s, %s; want %s", id, text(second), text(third), was)
			}
		}
	}
	if m.x.Len() != 12 {
		t.Errorf("P8.3: the table has %d terms", m.x.Len())
	}
}
