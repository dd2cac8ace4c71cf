package term_test

import (
	"fmt"
	"math/rand"
	"strings"
	"testing"

	"theodolite/api"
	"theodolite/rat"
	"theodolite/sorts"
	"theodolite/term"
)

// TestUnlikeNumbers: numbers whose limbs, one behind the other, are the same.
func TestUnlikeNumbers(t *testing.T) {
	m := start(t)
	list := func(limbs ...uint64) []uint64 { return limbs }
	vals := []api.Rat{
		{Den: list(1)}, {Num: list(1), Den: list(1)}, {Neg: true, Num: list(1), Den: list(1)},
		{Num: list(1), Den: list(2)}, {Num: list(2), Den: list(1)}, {Neg: true, Num: list(1), Den: list(2)}, {Neg: true, Num: list(2), Den: list(1)},
		{Num: list(0, 1), Den: list(1)}, {Num: list(1), Den: list(0, 1)}, {Num: list(1, 1), Den: list(1)}, {Num: list(1), Den: list(1, 1)},
		{Num: list(1, 3), Den: list(5)}, {Num: list(1), Den: list(3, 5)}, {Num: list(258), Den: list(1)}, {Num: list(1 << 32), Den: list(1)},
		{Num: list(1 << 56), Den: list(1)}, {Num: list(1 << 63), Den: list(1)}, {Num: list(1<<63 + 1), Den: list(1)}, {Num: list(0, 0, 1), Den: list(1)},
	}
	for range 2 {
		for k, v := range vals {
			if id, e := m.x.Make(api.Num, "", v); id != k || e != api.OK {
				t.Errorf("P7.1: %v: %d, %d; want %d", v, id, e, k)
			}
			m.is(k, api.Node{Op: api.Num, Val: v, Sort: 1})
		}
	}
}

// TestUnlikeArgs: nodes that differ in one arg by 256, or in how many args they
// have, or in their order.
func TestUnlikeArgs(t *testing.T) {
	m := start(t)
	for k := range 2000 {
		m.num(k, 1)
	}
	seen := map[int]string{}
	for _, args := range [][]int{
		{1, 2}, {2, 1}, {1, 1}, {2, 2}, {1, 1, 2}, {1, 2, 1}, {1, 2, 2}, {1, 2, 0}, {0, 1, 2}, {0, 0}, {0, 0, 0}, {0, 0, 0, 0},
		{257, 2}, {1, 258}, {258, 257}, {513}, {1}, {257}, {0}, {256}, {512}, {1, 513}, {258, 1, 2}, {0, 256}, {256, 0},
	} {
		for _, op := range []int{api.Sub, api.Add, api.Mul, api.Eq, api.Unlike, api.Le, api.Lt, api.Ge, api.Gt} {
			if len(args) == 1 && op != api.Sub {
				continue
			}
			what := fmt.Sprint(op, args)
			id := m.op(op, args...)
			if other, there := seen[id]; there {
				t.Errorf("P7.3: %s and %s are both %d", what, other, id)
			}
			seen[id] = what
			m.is(id, api.Node{Op: op, Args: args, Sort: mapSort(op)})
		}
	}
}

func mapSort(op int) int {
	if op == api.Sub || op == api.Add || op == api.Mul {
		return api.Real
	}
	return api.Bool
}

func TestUnlikeNames(t *testing.T) {
	s := sorts.New()
	m := maker{t, term.New(s)}
	names := []string{"a", "aa", "A", "a ", "a\x00", "\x00", "é", "\xff", "1", "1/2", "|", "(", strings.Repeat("a", 200), strings.Repeat("a", 199)}
	for k, name := range names {
		s.Fun(api.Fun{Name: name, Result: k % 2})
		if id := m.app(name); id != k {
			t.Errorf("P7.1: %q: %d", name, id)
		}
	}
	for k, name := range names {
		if id := m.app(name); id != k {
			t.Errorf("P7.1: %q again: %d", name, id)
		}
		m.is(k, api.Node{Op: api.App, Name: name, Sort: k % 2})
	}
}

// plain is terms as a list that is gone through, with what is told of one by a
// walk down from it.
type plain struct {
	funs  map[string]api.Fun
	nodes []api.Node
}

func (p *plain) number(id int) (is, zero bool) {
	n := p.nodes[id]
	switch {
	case n.Op == api.Num:
		return true, rat.Sign(n.Val) == 0
	case n.Op == api.Sub && len(n.Args) == 1:
		return p.number(n.Args[0])
	case n.Op == api.Div:
		is, zero = p.number(n.Args[0])
		for _, a := range n.Args[1:] {
			also, _ := p.number(a)
			is = is && also
		}
	}
	return is, zero && is
}

func (p *plain) sort(op int, name string, args []int) (int, bool) {
	var row []int
	for _, a := range args {
		row = append(row, p.nodes[a].Sort)
	}
	if op == api.App {
		f, ok := p.funs[name]
		return f.Result, ok && fmt.Sprint(row) == fmt.Sprint(f.Args)
	}
	if op == api.Num {
		return api.Real, len(args) == 0
	}
	if op == api.Ite {
		if len(row) != 3 || row[0] != 0 || row[1] != row[2] {
			return 0, false
		}
		return row[1], true
	}
	for _, k := range kins() {
		if k.op == op && (len(row) < k.least || len(row) > k.most || len(row) > 0 && !oneOf(row, k.sorts)) {
			return 0, false
		}
	}
	unknowns := 0
	for k, a := range args {
		is, zero := p.number(a)
		if !is {
			unknowns++
		}
		if op == api.Div && k > 0 && (!is || zero) {
			return 0, false
		}
	}
	if op == api.Mul && unknowns > 1 {
		return 0, false
	}
	if op >= api.Add && op <= api.Div {
		return api.Real, true
	}
	return api.Bool, true
}

func (p *plain) make(op int, name string, val api.Rat, args []int) (int, api.Errno) {
	zero := len(val.Num) == 0 && len(val.Den) == 0 && !val.Neg
	if op < 1 || op > 20 || name != "" && op != api.App || !zero && op != api.Num || op == api.Num && !rat.Valid(val) {
		return 0, api.ErrArg
	}
	for _, a := range args {
		if a < 0 || a >= len(p.nodes) {
			return 0, api.ErrArg
		}
	}
	sort, ok := p.sort(op, name, args)
	if !ok {
		return 0, api.ErrSort
	}
	n := api.Node{Op: op, Name: name, Val: val, Args: args, Sort: sort}
	for id, o := range p.nodes {
		if text(o) == text(n) {
			return id, api.OK
		}
	}
	p.nodes = append(p.nodes, n)
	return len(p.nodes) - 1, api.OK
}

// vars is the constants within a term, by a walk that comes to each as often
// as it is there.
func (p *plain) vars(id int, found map[int]bool) {
	n := p.nodes[id]
	if n.Op == api.App && len(n.Args) == 0 {
		found[id] = true
	}
	for _, a := range n.Args {
		p.vars(a, found)
	}
}

// agree holds all that a table tells against a list.
func agree(t *testing.T, x *term.Table, p *plain) {
	t.Helper()
	m := maker{t, x}
	if x.Len() != len(p.nodes) {
		t.Fatalf("P7.2: Len %d, want %d", x.Len(), len(p.nodes))
	}
	once := map[string]int{}
	for id, n := range p.nodes {
		m.is(id, n)
		got, _ := x.Node(id)
		if other, there := once[text(got)]; there {
			t.Errorf("P7.3: %d and %d are of one node", id, other)
		}
		once[text(got)] = id
		found := map[int]bool{}
		p.vars(id, found)
		var want []int
		for k := range p.nodes {
			if found[k] {
				want = append(want, k)
			}
		}
		if fmt.Sprint(x.Vars(id)) != fmt.Sprint(want) {
			t.Errorf("P7.2: Vars(%d): %v, want %v", id, x.Vars(id), want)
		}
	}
}

// some are args of which most may be.
func (p *plain) some(r *rand.Rand) []int {
	var args []int
	sort := r.Intn(4)
	for range r.Intn(4) {
		id := r.Intn(len(p.nodes)+1) - r.Intn(2)
		for range 6 {
			if id < 0 || id >= len(p.nodes) || p.nodes[id].Sort != sort {
				id = r.Intn(len(p.nodes) + 1)
			}
		}
		args = append(args, id)
		if r.Intn(6) == 0 {
			sort = r.Intn(4)
		}
	}
	return args
}

func TestWalk(t *testing.T) {
	names := []string{"x", "y", "p", "a", "b", "f", "g", "h", "w", ""}
	vals := []api.Rat{{}, rat.Of(0, 1), rat.Of(1, 2), rat.Of(-1, 2), rat.Of(2, 1), {Num: []uint64{2}, Den: []uint64{2}}, {Neg: true}}
	for seed := range int64(60) {
		r := rand.New(rand.NewSource(seed))
		s := bed()
		x := term.New(s)
		p := &plain{funs: map[string]api.Fun{}}
		for _, f := range s.Funs() {
			p.funs[f.Name] = f
		}
		for range 250 {
			op, name, val, args := r.Intn(22), "", vals[0], p.some(r)
			if op == api.App || r.Intn(30) == 0 {
				name = names[r.Intn(len(names))]
			}
			if op == api.Num || r.Intn(30) == 0 {
				val = vals[r.Intn(len(vals))]
			}
			if op == api.Num && r.Intn(8) > 0 {
				args = nil
			}
			if r.Intn(12) == 0 {
				delete(p.funs, "w")
				s.Pop(s.Levels())
				s.Push()
				p.funs["w"] = api.Fun{Name: "w", Result: r.Intn(4)}
				s.Fun(p.funs["w"])
			}
			want, wantErr := p.make(op, name, val, args)
			if id, e := x.Make(op, name, val, args...); id != want || e != wantErr {
				t.Fatalf("seed %d: Make(%d, %q, %v, %v): %d, %d; want %d, %d", seed, op, name, val, args, id, e, want, wantErr)
			}
		}
		agree(t, x, p)
	}
}
