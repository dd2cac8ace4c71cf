package term_test

import (
	"slices"
	"testing"

	"theodolite/api"
	"theodolite/term"
)

const mark = 0xdead

// roomy is a copy of a list with spare room behind it, which is marked.
func roomy[T int | uint64](list ...T) []T {
	return append(slices.Clone(list), mark, mark)[:len(list)]
}

// spoil writes over a list and over all its room.
func spoil[T int | uint64](list []T) {
	list = list[:cap(list)]
	for k := range list {
		list[k] = mark
	}
}

func TestWhatIsHandedIn(t *testing.T) {
	m := start(t)
	m.app("x")
	m.app("y")
	val := api.Rat{Neg: true, Num: roomy[uint64](1, 3), Den: roomy[uint64](5)}
	m.sure(m.x.Make(api.Num, "", val))
	args := roomy(0, 1, 0)
	m.op(api.Add, args...)
	m.op(api.Sub, args[:2]...)
	m.app("f", args[:1]...)
	m.refused(api.ErrSort, api.And, "", api.Rat{}, args...)
	if !slices.Equal(args[:5], []int{0, 1, 0, mark, mark}) {
		t.Errorf("P7.3: args are %v", args[:5])
	}
	if !slices.Equal(val.Num[:4], []uint64{1, 3, mark, mark}) || !slices.Equal(val.Den[:3], []uint64{5, mark, mark}) {
		t.Errorf("P7.3: the number is %v, %v", val.Num[:4], val.Den[:3])
	}
	before := all(m.x)
	spoil(args)
	spoil(val.Num)
	spoil(val.Den)
	if now := all(m.x); now != before {
		t.Errorf("P7.3: %s\nis %s\nsince what was handed in was changed", before, now)
	}
	if m.op(api.Add, 0, 1, 0) != 3 || m.op(api.Sub, 0, 1) != 4 || m.app("f", 0) != 5 || m.x.Len() != 6 {
		t.Error("P7.1: terms that were there are not found")
	}
}

func TestWhatIsAnswered(t *testing.T) {
	m := start(t)
	m.app("x")
	m.app("y")
	m.sure(m.x.Make(api.Num, "", api.Rat{Num: []uint64{1, 3}, Den: []uint64{5}}))
	m.op(api.Add, 0, 1, 2, 0)
	m.op(api.Sub, 3, 3)
	m.sure(m.x.Fresh(1))
	before := all(m.x)
	for id := range m.x.Len() {
		n, _ := m.x.Node(id)
		o, _ := m.x.Node(id)
		spoil(m.x.Vars(id))
		for _, list := range []func(){func() { spoil(n.Args) }, func() { spoil(n.Val.Num) }, func() { spoil(n.Val.Den) }} {
			list()
			if now := all(m.x); now != before {
				t.Fatalf("P7.3: %s\nis %s\nsince an answer was changed", before, now)
			}
		}
		m.is(id, o)
		// Lists of one answer are apart.
		spoil(o.Val.Num)
		den := slices.Clone(o.Val.Den)
		spoil(o.Args)
		if p, _ := m.x.Node(id); !slices.Equal(den, p.Val.Den) {
			t.Errorf("P7.3: two lists of one answer share memory: %v", den)
		}
	}
	if m.op(api.Add, 0, 1, 2, 0) != 3 || m.x.Len() != 6 {
		t.Error("P7.1: a term that was there is not found")
	}
}

// TestTablesApart: tables of one Table of 6 have nothing else in common.
func TestTablesApart(t *testing.T) {
	s := bed()
	m, o := maker{t, term.New(s)}, maker{t, term.New(s)}
	m.app("x")
	m.op(api.Sub, 0)
	m.sure(m.x.Fresh(2))
	if o.x.Len() != 0 {
		t.Error("rule 7: terms of another table")
	}
	o.refused(api.ErrArg, api.Sub, "", api.Rat{}, 0)
	if o.app("y") != 0 || m.x.Len() != 3 {
		t.Error("rule 7: tables share terms")
	}
	m.is(0, api.Node{Op: api.App, Name: "x", Sort: 1})
	o.is(0, api.Node{Op: api.App, Name: "y", Sort: 1})
}
