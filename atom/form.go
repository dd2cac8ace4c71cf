package atom

import (
	"theodolite/api"
	"theodolite/linear"
	"theodolite/rat"
)

// ofSum tells whether atoms of a kind say how a sum stands to 0.
func ofSum(kind int) bool {
	return kind == api.LeZero || kind == api.LtZero || kind == api.EqZero
}

// opposite is the kind that a sum's negative is of where the sum is not of this
// one.
func opposite(kind int) (int, bool) {
	switch kind {
	case api.LeZero:
		return api.LtZero, true
	case api.LtZero:
		return api.LeZero, true
	}
	return 0, false
}

// stands tells whether a number stands to 0 as a kind says.
func stands(kind int, value api.Rat) bool {
	switch kind {
	case api.LeZero:
		return rat.Sign(value) <= 0
	case api.LtZero:
		return rat.Sign(value) < 0
	}
	return rat.Sign(value) == 0
}

// formed is the one sum of all those that say the same: what is at most 0, or
// below it, is so by any number above 0; what is 0 is so by any that is not 0.
func formed(kind int, p api.Poly) (api.Poly, api.Errno) {
	if len(p.Parts) == 0 {
		return api.Poly{Const: rat.Of(rat.Sign(p.Const), 1)}, api.OK
	}
	by, _ := rat.Quo(rat.Of(1, 1), p.Parts[0].Coef) // no longer than the Coef is, which is not 0
	if kind != api.EqZero {
		by = size(by)
	}
	return linear.Scale(p, by)
}

// hasForm tells whether a sum that is Valid may stand in an atom. Without parts
// any may.
func hasForm(kind int, p api.Poly) bool {
	if len(p.Parts) == 0 {
		return true
	}
	first := p.Parts[0].Coef
	if kind != api.EqZero {
		first = size(first)
	}
	return rat.Cmp(first, rat.Of(1, 1)) == 0
}

// size is a number without its sign.
func size(a api.Rat) api.Rat {
	if a.Neg {
		return rat.Neg(a)
	}
	return a
}
