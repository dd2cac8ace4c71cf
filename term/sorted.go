package term

import "theodolite/api"

// worth is what a term is as a number, as far as its writing tells.
type worth int

const (
	unknown worth = iota // no number, whatever it comes to
	zero
	number // but 0
)

// sorted tells the sort of a term of such args, or that there is none.
func (t *Table) sorted(op int, name string, args []int) (int, bool) {
	switch op {
	case api.True, api.False:
		return api.Bool, len(args) == 0
	case api.Num:
		return api.Real, len(args) == 0
	case api.Not:
		return api.Bool, len(args) == 1 && t.all(api.Bool, args)
	case api.And, api.Or, api.Imp, api.Xor:
		return api.Bool, len(args) >= 2 && t.all(api.Bool, args)
	case api.Eq, api.Unlike:
		return api.Bool, len(args) >= 2 && t.all(t.terms[args[0]].node.Sort, args)
	case api.Le, api.Lt, api.Ge, api.Gt:
		return api.Bool, len(args) >= 2 && t.all(api.Real, args)
	case api.Ite:
		return t.sortedIte(args)
	case api.App:
		return t.sortedApp(name, args)
	}
	return api.Real, t.reckoned(op, args)
}

// sortedIte tells the sort of a choice.
func (t *Table) sortedIte(args []int) (int, bool) {
	if len(args) != 3 {
		return 0, false
	}
	sort := t.terms[args[1]].node.Sort
	return sort, t.all(api.Bool, args[:1]) && t.all(sort, args[2:])
}

// sortedApp tells the sort of a function's application, by what is declared
// now: one that was made before may have no function any more.
func (t *Table) sortedApp(name string, args []int) (int, bool) {
	f, ok := t.declared.Find(name)
	if !ok || len(f.Args) != len(args) {
		return 0, false
	}
	for k, a := range args {
		if t.terms[a].node.Sort != f.Args[k] {
			return 0, false
		}
	}
	return f.Result, true
}

// reckoned tells whether args may be those of Add, Sub, Mul or Div.
func (t *Table) reckoned(op int, args []int) bool {
	if len(args) == 0 || len(args) == 1 && op != api.Sub || !t.all(api.Real, args) {
		return false
	}
	switch op {
	case api.Mul:
		return t.count(unknown, args) <= 1
	case api.Div:
		return t.count(number, args[1:]) == len(args)-1
	}
	return true
}

// all tells whether args are all of one sort.
func (t *Table) all(sort int, args []int) bool {
	for _, a := range args {
		if t.terms[a].node.Sort != sort {
			return false
		}
	}
	return true
}

// count tells how many of args are such.
func (t *Table) count(w worth, args []int) int {
	n := 0
	for _, a := range args {
		if t.terms[a].worth == w {
			n++
		}
	}
	return n
}

// worthOf tells what a node is as a number: Sub of one and Div are what their
// first arg is, as the others of a Div that was made are numbers, none of them 0.
func (t *Table) worthOf(n api.Node) worth {
	switch {
	case n.Op == api.Num && len(n.Val.Num) == 0:
		return zero
	case n.Op == api.Num:
		return number
	case n.Op == api.Sub && len(n.Args) == 1, n.Op == api.Div:
		return t.terms[n.Args[0]].worth
	}
	return unknown
}
