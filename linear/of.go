package linear

import (
	"maps"
	"slices"

	"theodolite/api"
	"theodolite/rat"
	"theodolite/term"
)

// step is a term on the way up to a sum.
type step struct {
	node   api.Node // without Args where they are none of the sum
	number bool     // by its writing (chapter 7)
	sum    api.Poly
	uses   int // how often steps that are still to come have it as an arg
}

// way is the steps of a sum, each term once, by id.
type way map[int]*step

// Of is the sum that a term is. What it shares with other steps' sums is gone
// with them.
func Of(t *term.Table, id int) (api.Poly, api.Errno) {
	if sort, ok := t.Sort(id); !ok || sort != api.Real {
		return api.Poly{}, api.ErrArg
	}
	w := wayTo(t, id)
	// A term's args have ids below its own.
	for _, k := range slices.Sorted(maps.Keys(w)) {
		if e := w.reckon(k); e != api.OK {
			return api.Poly{}, e
		}
	}
	return w[id].sum, api.OK
}

// wayTo is the steps to a term: it, and the args of those that are reckoned.
func wayTo(t *term.Table, id int) way {
	w := way{id: {}}
	for todo := []int{id}; len(todo) > 0; {
		k := todo[len(todo)-1]
		todo = todo[:len(todo)-1]
		n, _ := t.Node(k)
		if !reckoned(n.Op) {
			n.Args = nil
		}
		w[k].node = n
		for _, a := range n.Args {
			if w[a] == nil {
				w[a] = &step{}
				todo = append(todo, a)
			}
			w[a].uses++
		}
	}
	return w
}

func reckoned(op int) bool {
	return op == api.Add || op == api.Sub || op == api.Mul || op == api.Div
}

// reckon makes a step's sum of those of its args.
func (w way) reckon(id int) (e api.Errno) {
	s := w[id]
	args := s.node.Args
	switch s.node.Op {
	case api.Num:
		s.sum, s.number = constant(s.node.Val), true
	case api.Add:
		s.sum, e = w.total(args)
	case api.Sub:
		s.sum, e = w.difference(args)
		s.number = len(args) == 1 && w[args[0]].number
	case api.Mul:
		s.sum, e = w.product(args)
	case api.Div:
		s.sum, e = w.quotient(args)
		s.number = w[args[0]].number
	default:
		s.sum = single(id)
	}
	w.leave(args)
	return e
}

// leave lets go of sums that no step needs any more: long ones would be many.
func (w way) leave(args []int) {
	for _, a := range args {
		w[a].uses--
		if w[a].uses == 0 {
			w[a].sum = api.Poly{}
		}
	}
}

func (w way) total(args []int) (api.Poly, api.Errno) {
	sum, e := w[args[0]].sum, api.OK
	for _, a := range args[1:] {
		if sum, e = added(sum, w[a].sum); e != api.OK {
			return api.Poly{}, e
		}
	}
	return sum, api.OK
}

func (w way) difference(args []int) (api.Poly, api.Errno) {
	sum, minus := w[args[0]].sum, rat.Of(-1, 1)
	if len(args) == 1 {
		return scaled(sum, minus)
	}
	for _, a := range args[1:] {
		other, _ := scaled(w[a].sum, minus) // by -1 none grows
		var e api.Errno
		if sum, e = added(sum, other); e != api.OK {
			return api.Poly{}, e
		}
	}
	return sum, api.OK
}

// product is the numbers' product, and by it the one arg, if any, that is none.
func (w way) product(args []int) (api.Poly, api.Errno) {
	by, e := rat.Of(1, 1), api.OK
	other := constant(by)
	for _, a := range args {
		if !w[a].number {
			other = w[a].sum
		} else if by, e = rat.Mul(by, w[a].sum.Const); e != api.OK {
			return api.Poly{}, e
		}
	}
	return scaled(other, by)
}

func (w way) quotient(args []int) (api.Poly, api.Errno) {
	sum := w[args[0]].sum
	for _, a := range args[1:] {
		by, _ := rat.Quo(rat.Of(1, 1), w[a].sum.Const) // a number, and not 0
		var e api.Errno
		if sum, e = scaled(sum, by); e != api.OK {
			return api.Poly{}, e
		}
	}
	return sum, api.OK
}
