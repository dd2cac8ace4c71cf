package term

import "theodolite/api"

// key is what a node is, as what can be held against another: lists stand in
// it as texts.
type key struct {
	op, sort int
	name     string
	neg      bool
	num, den string
	args     string
}

// keyOf is alike of two nodes just where all their fields are: a number that is
// Valid is written in one way only.
func keyOf(n api.Node) key {
	return key{
		op:   n.Op,
		sort: n.Sort,
		name: n.Name,
		neg:  n.Val.Neg,
		num:  packed(n.Val.Num),
		den:  packed(n.Val.Den),
		args: packed(n.Args),
	}
}

// packed is a list as a text, eight bytes an item.
func packed[T int | uint64](list []T) string {
	b := make([]byte, 0, 8*len(list))
	for _, x := range list {
		for shift := 0; shift < 64; shift += 8 {
			b = append(b, byte(uint64(x)>>shift))
		}
	}
	return string(b)
}
