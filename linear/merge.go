package linear

import (
	"slices"

	"theodolite/api"
	"theodolite/rat"
)

// added is two sums' parts merged, as both rise; parts that come to 0 are gone.
// A part of one of them alone is not copied: long sums of long sums are cheap.
func added(p, q api.Poly) (api.Poly, api.Errno) {
	a, b := p.Parts, q.Parts
	parts := make([]api.Part, 0, len(a)+len(b))
	for len(a) > 0 && len(b) > 0 {
		switch {
		case a[0].Term < b[0].Term:
			parts, a = append(parts, a[0]), a[1:]
		case a[0].Term > b[0].Term:
			parts, b = append(parts, b[0]), b[1:]
		default:
			both, e := rat.Add(a[0].Coef, b[0].Coef)
			if e != api.OK {
				return api.Poly{}, e
			}
			if rat.Sign(both) != 0 {
				parts = append(parts, api.Part{Coef: both, Term: a[0].Term})
			}
			a, b = a[1:], b[1:]
		}
	}
	parts = append(append(parts, a...), b...)
	sum, e := rat.Add(p.Const, q.Const)
	if e != api.OK {
		return api.Poly{}, e
	}
	return api.Poly{Parts: parts, Const: sum}, api.OK
}

// scaled is a sum by a number, all of it new memory.
func scaled(p api.Poly, k api.Rat) (api.Poly, api.Errno) {
	if rat.Sign(k) == 0 {
		return constant(rat.Of(0, 1)), api.OK
	}
	parts := make([]api.Part, 0, len(p.Parts))
	for _, x := range p.Parts {
		c, e := rat.Mul(x.Coef, k)
		if e != api.OK {
			return api.Poly{}, e
		}
		parts = append(parts, api.Part{Coef: c, Term: x.Term})
	}
	c, e := rat.Mul(p.Const, k)
	if e != api.OK {
		return api.Poly{}, e
	}
	return api.Poly{Parts: parts, Const: c}, api.OK
}

// constant is a number as a sum.
func constant(a api.Rat) api.Poly {
	return api.Poly{Const: a}
}

// single is 1 times a term.
func single(id int) api.Poly {
	return api.Poly{Parts: []api.Part{{Coef: rat.Of(1, 1), Term: id}}, Const: rat.Of(0, 1)}
}

func copied(a api.Rat) api.Rat {
	return api.Rat{Neg: a.Neg, Num: slices.Clone(a.Num), Den: slices.Clone(a.Den)}
}
