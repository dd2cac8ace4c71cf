package model

import (
	"theodolite/api"
	"theodolite/rat"
)

// holds tells whether what is true or false is true.
func holds(op int, args []api.Value) bool {
	switch op {
	case api.True:
		return true
	case api.Not:
		return !args[0].Bool
	case api.And:
		return count(args) == len(args)
	case api.Or:
		return count(args) > 0
	case api.Imp:
		last := len(args) - 1
		return args[last].Bool || count(args[:last]) < last
	case api.Xor:
		return count(args)%2 == 1
	case api.Eq:
		return allSame(args)
	case api.Unlike:
		return noneSame(args)
	case api.Le:
		return each(args, func(c int) bool { return c <= 0 })
	case api.Lt:
		return each(args, func(c int) bool { return c < 0 })
	case api.Ge:
		return each(args, func(c int) bool { return c >= 0 })
	case api.Gt:
		return each(args, func(c int) bool { return c > 0 })
	}
	return false
}

// count tells how many are true.
func count(args []api.Value) int {
	n := 0
	for _, a := range args {
		if a.Bool {
			n++
		}
	}
	return n
}

func allSame(args []api.Value) bool {
	for _, a := range args[1:] {
		if !Same(args[0], a) {
			return false
		}
	}
	return true
}

func noneSame(args []api.Value) bool {
	for k, a := range args {
		for _, b := range args[:k] {
			if Same(a, b) {
				return false
			}
		}
	}
	return true
}

// each tells whether each number stands so to the next.
func each(args []api.Value, so func(c int) bool) bool {
	for k, a := range args[1:] {
		if !so(rat.Cmp(args[k].Num, a.Num)) {
			return false
		}
	}
	return true
}
