package linear

import (
	"theodolite/api"
	"theodolite/rat"
)

// Value is what one is.
func Value(p api.Poly, of func(id int) api.Rat) (api.Rat, api.Errno) {
	if of == nil || !Valid(p) {
		return api.Rat{}, api.ErrArg
	}
	// All are asked first: one that is no number is told ahead of a sum that is
	// too big.
	values := make([]api.Rat, len(p.Parts))
	for k, x := range p.Parts {
		values[k] = told(of, x.Term)
		if !rat.Valid(values[k]) {
			return api.Rat{}, api.ErrArg
		}
	}
	sum := copied(p.Const)
	for k, x := range p.Parts {
		by, e := rat.Mul(x.Coef, values[k])
		if e != api.OK {
			return api.Rat{}, e
		}
		sum, e = rat.Add(sum, by)
		if e != api.OK {
			return api.Rat{}, e
		}
	}
	return sum, api.OK
}

// told is what a function tells of an id; of one that panics it is no number.
func told(of func(id int) api.Rat, id int) (value api.Rat) {
	defer func() { _ = recover() }()
	return of(id)
}
