package atom_test

import (
	"fmt"
	"math/big"
	"math/rand"
	"slices"
	"strings"
	"testing"

	"theodolite/api"
	"theodolite/atom"
	"theodolite/rat"
)

// P9.2

// opposite is what Not has of a sum's atom, by big fractions.
func opposite(a api.Atom) string {
	var q api.Poly
	for _, x := range a.Poly.Parts {
		q.Parts = append(q.Parts, api.Part{Coef: of(new(big.Rat).Neg(back(x.Coef))), Term: x.Term})
	}
	q.Const = of(new(big.Rat).Neg(back(a.Poly.Const)))
	if a.Kind == api.LeZero {
		return formed(api.LtZero, q)
	}
	return formed(api.LeZero, q)
}

func TestNot(t *testing.T) {
	for _, a := range atomsOfSums() {
		b, ok := atom.Not(a)
		if a.Kind == api.EqZero {
			if ok || text(b) != none() {
				t.Errorf("P9.2: Not(%.100s): %.100s, %v", text(a), text(b), ok)
			}
			continue
		}
		if want := opposite(a); !ok || text(b) != want || !atom.Valid(b) {
			t.Errorf("P9.2: Not(%.100s): %.100s, %v; want %.100s", text(a), text(b), ok, want)
		}
		if c, ok := atom.Not(b); !ok || len(a.Poly.Parts) > 0 && !atom.Same(a, c) {
			t.Errorf("P9.2: Not(Not(%.100s)): %.100s, %v", text(a), text(c), ok)
		}
	}
	for _, a := range append(otherAtoms(), noAtoms()...) {
		if b, ok := atom.Not(a); ok || text(b) != none() {
			t.Errorf("P9.2: Not(%.100s): %.100s, %v", text(a), text(b), ok)
		}
	}
}

func TestNotExamples(t *testing.T) {
	for _, x := range []struct {
		a    api.Atom
		want string
	}{
		{api.Atom{Kind: api.LeZero, Poly: sum("1", 3, "2", 5, "0")}, "2: -1*3 -2*5 0, 0, 0"},
		{api.Atom{Kind: api.LtZero, Poly: sum("-1", 3, "2", 5, "1/2")}, "1: 1*3 -2*5 -1/2, 0, 0"},
		{api.Atom{Kind: api.LeZero, Poly: sum("7")}, "2: -1, 0, 0"},
		{api.Atom{Kind: api.LtZero, Poly: sum("-7/2")}, "1: 1, 0, 0"},
		{api.Atom{Kind: api.LtZero, Poly: sum("0")}, "1: 0, 0, 0"},
	} {
		if b, ok := atom.Not(x.a); !ok || text(b) != x.want {
			t.Errorf("P9.2: Not(%s): %s, %v; want %s", text(x.a), text(b), ok, x.want)
		}
	}
}

// stands tells whether a number stands to 0 as a kind says.
func stands(kind int, a *big.Rat) bool {
	return map[int]bool{api.LeZero: a.Sign() <= 0, api.LtZero: a.Sign() < 0, api.EqZero: a.Sign() == 0, api.NeZero: a.Sign() != 0}[kind]
}

func TestTrivial(t *testing.T) {
	for _, a := range atomsOfSums() {
		known := len(a.Poly.Parts) == 0
		want := known && stands(a.Kind, back(a.Poly.Const))
		if v, k := atom.Trivial(a); v != want || k != known {
			t.Errorf("P9.2: Trivial(%.100s): %v, %v; want %v, %v", text(a), v, k, want, known)
		}
	}
	for _, a := range append(otherAtoms(), noAtoms()...) {
		if v, k := atom.Trivial(a); v || k {
			t.Errorf("P9.2: Trivial(%.100s): %v, %v", text(a), v, k)
		}
	}
}

// at is some number of each id.
func at(id int) *big.Rat { return big.NewRat(int64(id%1000)*3-4, 7) }

// at0 is such a number as a call is told.
func at0(id int) api.Rat { return of(at(id)) }

// valueOf is a sum where each id is what at says.
func valueOf(p api.Poly, at func(id int) *big.Rat) *big.Rat {
	v := back(p.Const)
	for _, x := range p.Parts {
		v.Add(v, new(big.Rat).Mul(back(x.Coef), at(x.Term)))
	}
	return v
}

func TestHolds(t *testing.T) {
	for _, a := range atomsOfSums() {
		want := stands(a.Kind, valueOf(a.Poly, at))
		if got, e := atom.Holds(a, at0); e != api.OK || got != want {
			t.Errorf("P9.2: Holds(%.100s): %v, %d; want %v", text(a), got, e, want)
		}
	}
	for _, kind := range kinds() {
		for _, c := range []string{"2", "1", "0", "1/1000000007", "-1/1000000007"} {
			a := api.Atom{Kind: kind, Poly: sum("1", 3, "-1", 5, c)}
			want := stands(kind, back(r(c)))
			if got, e := atom.Holds(a, func(id int) api.Rat { return rat.Of(4, 3) }); e != api.OK || got != want {
				t.Errorf("P9.2: Holds(%s) where both are one: %v, %d; want %v", text(a), got, e, want)
			}
		}
	}
}

// noHolds wants an error, and nothing beside it.
func noHolds(t *testing.T, what string, a api.Atom, of func(id int) api.Rat, want api.Errno) {
	t.Helper()
	if got, e := atom.Holds(a, of); e != want || got {
		t.Errorf("%s: Holds(%.100s): %v, %d; want error %d", what, text(a), got, e, want)
	}
}

func TestHoldsOfNone(t *testing.T) {
	for _, a := range append(otherAtoms(), noAtoms()...) {
		noHolds(t, "P9.2: of no sum", a, at0, api.ErrArg)
		noHolds(t, "P9.2: of no sum, no function", a, nil, api.ErrArg)
	}
	for _, a := range atomsOfSums() {
		noHolds(t, "P9.2: no function", a, nil, api.ErrArg)
	}
	for _, kind := range kinds() {
		a := api.Atom{Kind: kind, Poly: sum("1", 0, "-2", 1, "1/3", 2, "4", 3, "1")}
		for _, bad := range noNumbers() {
			for at := range 4 {
				noHolds(t, "P9.2: no number is told", a, func(id int) api.Rat {
					if id == at {
						return bad
					}
					return rat.Of(id, 3)
				}, api.ErrArg)
			}
		}
		noHolds(t, "rule 1: a function that panics", a, func(id int) api.Rat { panic("none") }, api.ErrArg)
	}
}

func TestHoldsTooBig(t *testing.T) {
	huge := func(id int) api.Rat { return of(most()) }
	for _, kind := range kinds() {
		noHolds(t, "P9.2: a part is too big", api.Atom{Kind: kind, Poly: sum("1", 0, "-2", 1, "0")}, huge, api.ErrBig)
		noHolds(t, "P9.2: a sum is too big", api.Atom{Kind: kind, Poly: sum("1", 0, "1")}, huge, api.ErrBig)
		noHolds(t, "P9.2: Const first", api.Atom{Kind: kind, Poly: sum("1", 0, "-1", 1, "1")}, huge, api.ErrBig)
		a := api.Atom{Kind: kind, Poly: sum("1", 0, "-1", 1, "0")}
		if got, e := atom.Holds(a, huge); e != api.OK || got != (kind != api.LtZero) {
			t.Errorf("P9.2: as big as may be: kind %d: %v, %d", kind, got, e)
		}
	}
}

func TestHoldsAsksOfParts(t *testing.T) {
	for _, kind := range kinds() {
		var asked []int
		atom.Holds(api.Atom{Kind: kind, Poly: sum("1", 2, "-1", 5, "1", 9, "0")}, func(id int) api.Rat {
			asked = append(asked, id)
			return rat.Of(0, 1)
		})
		slices.Sort(asked)
		if got := slices.Compact(asked); !slices.Equal(got, []int{2, 5, 9}) {
			t.Errorf("P9.2: asked of %v", got)
		}
		want := stands(kind, big.NewRat(-5, 2))
		if got, e := atom.Holds(api.Atom{Kind: kind, Poly: sum("-5/2")}, func(id int) api.Rat { panic("asked") }); e != api.OK || got != want {
			t.Errorf("P9.2: without parts nothing is asked: %v, %d", got, e)
		}
	}
}

// TestSame: atoms are the same just where all that their fields hold is.
func TestSame(t *testing.T) {
	p, q := sum("1", 3, "2", 5, "0"), sum("1", 3, "2", 5, "0")
	list := []api.Atom{{Kind: 5, A: 1, B: 2}, {Kind: 5, A: 1, B: 3}, {Kind: 5, A: 0, B: 2}, {Kind: 6, A: 1}, {Kind: 6, A: 2}, {Kind: 1, A: 1, B: 2}, {Kind: 1, Poly: p, A: 1}, {Kind: 1, Poly: p, B: 1}}
	list = append(append(append(list, atomsOfSums()...), otherAtoms()...), noAtoms()...)
	for i, a := range list {
		for k, b := range list {
			if atom.Same(a, b) != (text(a) == text(b)) {
				t.Errorf("P9.2: %d, %d: Same(%.100s, %.100s)", i, k, text(a), text(b))
			}
		}
	}
	if !atom.Same(api.Atom{Kind: 1, Poly: p}, api.Atom{Kind: 1, Poly: q}) {
		t.Error("P9.2: the same in other memory")
	}
	q.Parts[1].Coef.Neg = true
	if atom.Same(api.Atom{Kind: 1, Poly: p}, api.Atom{Kind: 1, Poly: q}) {
		t.Error("P9.2: unlike ones")
	}
	if !atom.Same(api.Atom{Kind: 6}, api.Atom{Kind: 6, Poly: api.Poly{Parts: []api.Part{}, Const: api.Rat{Num: []uint64{}}}}) {
		t.Error("P9.2: nil and an empty list are the same")
	}
}

// TestWalk: what is made of sums is so where the sums say it, and the opposite
// where they do not.
func TestWalk(t *testing.T) {
	g := rand.New(rand.NewSource(9))
	for round := range 3000 {
		p := api.Poly{Const: rat.Of(g.Intn(9)-4, g.Intn(3)+1)}
		for id := range 4 {
			if c := g.Intn(9) - 4; c != 0 && g.Intn(3) > 0 {
				p.Parts = append(p.Parts, api.Part{Coef: rat.Of(c, g.Intn(3)+1), Term: id})
			}
		}
		var values [4]*big.Rat
		for k := range values {
			values[k] = big.NewRat(g.Int63n(7)-3, g.Int63n(2)+1)
		}
		value := valueOf(p, func(id int) *big.Rat { return values[id] })
		told := func(id int) api.Rat { return of(values[id]) }
		for _, kind := range []int{api.LeZero, api.LtZero, api.EqZero, api.NeZero} {
			a, not, _ := atom.Make(kind, p)
			holds, e := atom.Holds(a, told)
			if e != api.OK || (holds != not) != stands(kind, value) {
				t.Fatalf("%d: Make(%d, %s) is %s, %v: that holds: %v, %d", round, kind, sumText(p), text(a), not, holds, e)
			}
			b, ok := atom.Not(a)
			other, _ := atom.Holds(b, told)
			if ok != (a.Kind != api.EqZero) || ok && other == holds {
				t.Fatalf("%d: Not(%s) is %s, %v", round, text(a), text(b), ok)
			}
		}
	}
}

// TestLong: nothing hangs on how long a sum is.
func TestLong(t *testing.T) {
	p := api.Poly{Const: rat.Of(-5000, 1)}
	for id := range 5000 {
		p.Parts = append(p.Parts, api.Part{Coef: rat.Of(-2, 1), Term: 3 * id})
	}
	a, not, e := atom.Make(api.EqZero, p)
	if want := "3: 1*0 1*3 1*6 "; e != api.OK || not || !strings.HasPrefix(text(a), want) || !atom.Valid(a) {
		t.Fatalf("P9.1: %.100s, %v, %d", text(a), not, e)
	}
	half := func(id int) api.Rat { return rat.Of(-1, 2) }
	if got, e := atom.Holds(a, half); !got || e != api.OK {
		t.Errorf("P9.2: %v, %d: %s", got, e, fmt.Sprint(len(a.Poly.Parts)))
	}
	a.Poly.Parts[4999].Term = 3 * 4998
	if atom.Valid(a) {
		t.Error("P9.1: the last Term is there twice")
	}
}
