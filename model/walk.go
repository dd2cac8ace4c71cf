package model

import (
	"theodolite/api"
	"theodolite/rat"
	"theodolite/term"
)

// walk goes to the terms within a term, and keeps what each is, so that it
// comes to each once. The values share limbs with the model.
type walk struct {
	terms  *term.Table
	tables map[string]api.Table
	values map[int]api.Value
}

// value is what a term is. Its args come first, from the left, whether they are
// needed or not: the first error ends the walk.
func (w *walk) value(id int) (api.Value, api.Errno) {
	if v, ok := w.values[id]; ok {
		return v, api.OK
	}
	n, _ := w.terms.Node(id)
	args := make([]api.Value, 0, len(n.Args))
	for _, a := range n.Args {
		v, e := w.value(a)
		if e != api.OK {
			return api.Value{}, e
		}
		args = append(args, v)
	}
	v, e := w.made(n, args)
	if e != api.OK {
		return api.Value{}, e
	}
	w.values[id] = v
	return v, api.OK
}

// made is what a node makes of its args' values.
func (w *walk) made(n api.Node, args []api.Value) (api.Value, api.Errno) {
	switch n.Op {
	case api.Num:
		return number(n.Val), api.OK
	case api.App:
		tb, ok := w.tables[n.Name]
		if !ok {
			return api.Value{}, api.ErrNone
		}
		return applied(tb, args), api.OK
	case api.Ite:
		if args[0].Bool {
			return args[1], api.OK
		}
		return args[2], api.OK
	case api.Add, api.Sub, api.Mul, api.Div:
		v, e := reckoned(n.Op, args)
		return number(v), e
	}
	return api.Value{Bool: holds(n.Op, args)}, api.OK
}

func number(a api.Rat) api.Value { return api.Value{Sort: api.Real, Num: a} }

// reckoned takes numbers together from the left, one by one, so that one on the
// way that is too big is told.
func reckoned(op int, args []api.Value) (api.Rat, api.Errno) {
	if len(args) == 1 { // of Sub; unlike Neg, this refuses what is no number
		return rat.Sub(rat.Of(0, 1), args[0].Num)
	}
	sum := args[0].Num
	for _, a := range args[1:] {
		var e api.Errno
		if sum, e = both(op, sum, a.Num); e != api.OK {
			return api.Rat{}, e
		}
	}
	return sum, api.OK
}

func both(op int, a, b api.Rat) (api.Rat, api.Errno) {
	switch op {
	case api.Add:
		return rat.Add(a, b)
	case api.Sub:
		return rat.Sub(a, b)
	case api.Mul:
		return rat.Mul(a, b)
	}
	return rat.Quo(a, b)
}
