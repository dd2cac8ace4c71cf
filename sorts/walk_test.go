package sorts_test

import (
	"fmt"
	"maps"
	"math"
	"math/rand"
	"slices"
	"testing"

	"theodolite/api"
	"theodolite/sorts"
)

const mark = 0xdead

// picture is all that is declared on the levels up to one.
type picture struct {
	sorts []string
	funs  map[string]api.Fun
}

// plain is a table as a picture of each level.
type plain struct{ levels []picture }

func (p *plain) top() *picture { return &p.levels[len(p.levels)-1] }

func (p *plain) push() {
	top := p.top()
	p.levels = append(p.levels, picture{slices.Clone(top.sorts), maps.Clone(top.funs)})
}

func (p *plain) pop(n int) api.Errno {
	if n < 0 {
		return api.ErrArg
	}
	if n >= len(p.levels) {
		return api.ErrNone
	}
	p.levels = p.levels[:len(p.levels)-n]
	return api.OK
}

func (p *plain) sort(name string) (int, api.Errno) {
	top := p.top()
	if slices.Contains(top.sorts, name) || slices.Contains(wrong(), name) {
		return 0, api.ErrArg
	}
	top.sorts = append(top.sorts, name)
	return len(top.sorts) - 1, api.OK
}

func (p *plain) fun(f api.Fun) api.Errno {
	top := p.top()
	_, there := top.funs[f.Name]
	if there || slices.Contains(wrong(), f.Name) || f.Result < 0 || f.Result >= len(top.sorts) {
		return api.ErrArg
	}
	for _, s := range f.Args {
		if s < 1 || s >= len(top.sorts) {
			return api.ErrArg
		}
	}
	top.funs[f.Name] = f
	return api.OK
}

// agree holds all that a table tells against a picture.
func agree(t *testing.T, x *sorts.Table, p *plain, names []string) {
	t.Helper()
	top := p.top()
	if x.Levels() != len(p.levels)-1 {
		t.Fatalf("Levels: %d, want %d", x.Levels(), len(p.levels)-1)
	}
	for _, name := range names {
		k := slices.Index(top.sorts, name)
		wantFound(t, x, name, max(k, 0), k >= 0)
		want, there := top.funs[name]
		if f, ok := x.Find(name); ok != there || fmt.Sprint(f) != fmt.Sprint(want) {
			t.Fatalf("Find(%q): %v, %v; want %v, %v", name, f, ok, want, there)
		}
	}
	for k := range len(top.sorts) + 3 {
		if k < len(top.sorts) {
			wantName(t, x, k, top.sorts[k], true)
		} else {
			wantName(t, x, k, "", false)
		}
	}
	var want []api.Fun
	for _, name := range slices.Sorted(maps.Keys(top.funs)) {
		want = append(want, top.funs[name])
	}
	if fmt.Sprint(x.Funs()) != fmt.Sprint(want) {
		t.Fatalf("Funs: %v, want %v", x.Funs(), want)
	}
}

func TestWalk(t *testing.T) {
	names := []string{"Bool", "Real", "", "let", "par"}
	for k := range 12 {
		names = append(names, fmt.Sprint("n", k))
	}
	for seed := range int64(60) {
		r := rand.New(rand.NewSource(seed))
		x := sorts.New()
		p := &plain{[]picture{{[]string{"Bool", "Real"}, map[string]api.Fun{}}}}
		for range 120 {
			name := names[r.Intn(len(names))]
			switch r.Intn(8) {
			case 0, 1, 2:
				want, wantErr := p.sort(name)
				wantSort(t, x, name, want, wantErr)
			case 3, 4, 5:
				f := api.Fun{Name: name, Result: r.Intn(len(p.top().sorts)+2) - 1}
				for range r.Intn(3) {
					f.Args = append(f.Args, 1+r.Intn(len(p.top().sorts)))
				}
				wantFun(t, x, f, p.fun(f))
			case 6:
				p.push()
				x.Push()
			case 7:
				n := r.Intn(4) - 1
				want := p.pop(n)
				wantPop(t, x, n, want, len(p.levels)-1)
			}
			agree(t, x, p, names)
			if t.Failed() {
				t.Fatalf("seed %d", seed)
			}
		}
	}
}

func TestArgsAreNotKept(t *testing.T) {
	x := sorts.New()
	x.Sort("A")
	room := []int{1, 2, 1, mark, mark}
	args := room[:3]
	wantFun(t, x, fun("f", args...), api.OK)
	wantFun(t, x, fun("g", args[:0]...), api.OK)
	wantFun(t, x, fun("h", args[1:]...), api.OK)
	if !slices.Equal(room, []int{1, 2, 1, mark, mark}) {
		t.Errorf("P6.3: what was handed in is %v", room)
	}
	before := fmt.Sprint(x.Funs())
	clear(room)
	if now := fmt.Sprint(x.Funs()); now != before {
		t.Errorf("P6.3: %s is %s, since the list was changed", before, now)
	}
}

// spoil changes a list and what lies behind it.
func spoil(args []int) {
	args = args[:cap(args)]
	for k := range args {
		args[k] = mark
	}
}

func TestAnswersAreNew(t *testing.T) {
	x := sorts.New()
	for _, name := range []string{"f", "g", "h"} {
		x.Fun(fun(name, 1, 1, 1))
	}
	x.Fun(fun("none"))
	const want = "[{f [1 1 1] 1} {g [1 1 1] 1} {h [1 1 1] 1} {none [] 1}]"
	l := x.Funs()
	spoil(l[0].Args)
	if got := fmt.Sprint(l[1:]); got != "[{g [1 1 1] 1} {h [1 1 1] 1} {none [] 1}]" {
		t.Errorf("P6.3: lists of one answer share memory: %s", got)
	}
	for _, f := range l {
		spoil(f.Args)
	}
	clear(l[:cap(l)])
	for _, name := range []string{"f", "g", "h", "none"} {
		f, _ := x.Find(name)
		spoil(f.Args)
	}
	if got := fmt.Sprint(x.Funs()); got != want {
		t.Errorf("P6.3: %s, want %s", got, want)
	}
	x.Push()
	x.Fun(fun("i", 1))
	x.Pop(1)
	if got := fmt.Sprint(x.Funs()); got != want {
		t.Errorf("P6.3: %s, want %s", got, want)
	}
}

func TestTablesApart(t *testing.T) {
	x, y := sorts.New(), sorts.New()
	x.Push()
	wantSort(t, x, "A", 2, api.OK)
	wantFun(t, x, fun("f", 2), api.OK)
	wantFound(t, y, "A", 0, false)
	wantFun(t, y, fun("f", 2), api.ErrArg)
	wantSort(t, y, "B", 2, api.OK)
	wantPop(t, y, 1, api.ErrNone, 0)
	wantFound(t, x, "A", 2, true)
}

func TestNil(t *testing.T) {
	var x *sorts.Table
	x.Push()
	wantSort(t, x, "A", 0, api.ErrArg)
	wantSort(t, x, "", 0, api.ErrArg)
	wantFun(t, x, fun("f"), api.ErrArg)
	wantFun(t, x, fun("f", 1), api.ErrArg)
	wantFound(t, x, "Bool", 0, false)
	wantFound(t, x, "A", 0, false)
	wantName(t, x, 0, "", false)
	wantName(t, x, 1, "", false)
	wantName(t, x, -1, "", false)
	if f, ok := x.Find("f"); ok || f.Name != "" || len(f.Args) != 0 || f.Result != 0 {
		t.Errorf("P6.3: Find: %v, %v", f, ok)
	}
	if len(x.Funs()) != 0 {
		t.Error("P6.3: Funs")
	}
	wantPop(t, x, 0, api.OK, 0)
	wantPop(t, x, 1, api.ErrNone, 0)
	wantPop(t, x, math.MaxInt, api.ErrNone, 0)
	wantPop(t, x, -1, api.ErrArg, 0)
}
