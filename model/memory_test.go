package model_test

import (
	"fmt"
	"slices"
	"testing"

	"theodolite/api"
	"theodolite/model"
)

const mark = 0xdead

// roomy is a copy of limbs with spare room behind it, which is marked.
func roomy(limbs []uint64) []uint64 {
	return append(slices.Clone(limbs), mark, mark)[:len(limbs)]
}

func roomyValue(v api.Value) api.Value {
	v.Num.Num, v.Num.Den = roomy(v.Num.Num), roomy(v.Num.Den)
	return v
}

func marked() api.Value { return el(mark, mark) }

func roomyArgs(l []api.Value) []api.Value {
	out := make([]api.Value, 0, len(l)+2)
	for _, v := range l {
		out = append(out, roomyValue(v))
	}
	return append(out, marked(), marked())[:len(l)]
}

func roomyTable(tb api.Table) api.Table {
	rows := make([]api.Row, 0, len(tb.Rows)+2)
	for _, row := range tb.Rows {
		rows = append(rows, api.Row{Args: roomyArgs(row.Args), Value: roomyValue(row.Value)})
	}
	rows = append(rows, api.Row{Value: marked()}, api.Row{Value: marked()})
	return api.Table{Name: tb.Name, Rows: rows[:len(tb.Rows)], Else: roomyValue(tb.Else)}
}

// roomyModel is a copy of a model with spare room behind all its lists.
func roomyModel(m api.Model) api.Model {
	tables := make([]api.Table, 0, len(m.Tables)+2)
	for _, tb := range m.Tables {
		tables = append(tables, roomyTable(tb))
	}
	return api.Model{Tables: append(tables, api.Table{Else: marked()}, api.Table{Else: marked()})[:len(m.Tables)]}
}

// valueLimbs is the lists of limbs of values.
func valueLimbs(l ...api.Value) (all [][]uint64) {
	for _, v := range l {
		all = append(all, v.Num.Num, v.Num.Den)
	}
	return all
}

// modelLimbs is all lists of limbs of a model.
func modelLimbs(m api.Model) (all [][]uint64) {
	for _, tb := range m.Tables {
		all = append(all, valueLimbs(tb.Else)...)
		for _, row := range tb.Rows {
			all = append(all, valueLimbs(row.Args...)...)
			all = append(all, valueLimbs(row.Value)...)
		}
	}
	return all
}

// roomMarked tells whether all the room behind a model's lists is marked.
func roomMarked(m api.Model) bool {
	ok := true
	two := func(l ...api.Value) { ok = ok && texts(l) == texts(list(marked(), marked())) }
	n := len(m.Tables)
	two(m.Tables[:n+2][n].Else, m.Tables[:n+2][n+1].Else)
	for _, tb := range m.Tables {
		n := len(tb.Rows)
		two(tb.Rows[:n+2][n].Value, tb.Rows[:n+2][n+1].Value)
		for _, row := range tb.Rows {
			n := len(row.Args)
			two(row.Args[:n+2][n:]...)
		}
	}
	for _, l := range modelLimbs(m) {
		ok = ok && slices.Equal(l[:len(l)+2][len(l):], []uint64{mark, mark})
	}
	return ok
}

// spoil writes over limbs and over all their room.
func spoil(l []uint64) {
	l = l[:cap(l)]
	for k := range l {
		l[k] = mark
	}
}

// wreck writes over all of a model, and over all its room.
func wreck(m api.Model) {
	for _, l := range modelLimbs(m) {
		spoil(l)
	}
	tables := m.Tables[:cap(m.Tables)]
	for _, tb := range tables {
		rows := tb.Rows[:cap(tb.Rows)]
		for k := range rows {
			args := rows[k].Args[:cap(rows[k].Args)]
			for o := range args {
				args[o] = marked()
			}
			rows[k] = api.Row{Value: marked()}
		}
	}
	for k := range tables {
		tables[k] = api.Table{Else: marked()}
	}
}

// apart wants that no two lists of an answer share memory: that each, and all
// its room, can be written over, and all others stand.
func apart(t *testing.T, what string, m api.Model) {
	t.Helper()
	whole := modelText(m)
	for _, l := range modelLimbs(m) {
		was := slices.Clone(l)
		spoil(l)
		copy(l, was)
		if modelText(m) != whole {
			t.Errorf("P10.3: %s: lists of an answer share memory", what)
		}
	}
	for _, tb := range m.Tables {
		for _, row := range tb.Rows {
			was := slices.Clone(row.Args)
			for k := range row.Args[:cap(row.Args)] {
				row.Args[:cap(row.Args)][k] = marked()
			}
			copy(row.Args, was)
			if modelText(m) != whole {
				t.Errorf("P10.3: %s: args of an answer share memory", what)
			}
		}
		was := slices.Clone(tb.Rows)
		for k := range tb.Rows[:cap(tb.Rows)] {
			tb.Rows[:cap(tb.Rows)][k] = api.Row{Value: marked()}
		}
		copy(tb.Rows, was)
		if modelText(m) != whole {
			t.Errorf("P10.3: %s: rows of an answer share memory", what)
		}
	}
}

// wide is a model with numbers in all places, whose limbs are many.
func wide() api.Model {
	n := func(s string) api.Value { return num(s + "8446744073709551617/36893488147419103233") }
	return api.Model{Tables: []api.Table{
		{Name: "x", Else: n("1")},
		{Name: "f", Rows: []api.Row{{Args: list(n("1")), Value: n("2")}, {Args: list(n("2")), Value: n("3")}}, Else: n("4")},
		{Name: "y", Rows: []api.Row{{Value: n("5")}}, Else: n("6")},
		{Name: "f", Rows: []api.Row{{Args: list(n("1"), n("2"), n("3"))}}},
		{Name: "p", Else: truth(true)},
	}}
}

func alone(v api.Value) api.Model { return api.Model{Tables: []api.Table{{Else: v}}} }

func only(tb api.Table) api.Model { return api.Model{Tables: []api.Table{tb}} }

func TestMemory(t *testing.T) {
	s, x := bed()
	k := maker{t, x, wide()}
	vx, vy, p := k.app("x"), k.app("y"), k.app("p")
	number := k.num("-8446744073709551617/36893488147419103233")
	terms := []int{vx, vy, p, number, k.app("f", vx), k.app("f", vy), k.op(api.Ite, p, vx, vy), k.op(api.Add, vx, vy), k.op(api.Sub, vx), k.op(api.Sub, vx, number), k.op(api.Mul, number, vx), k.op(api.Div, vx, number), k.op(api.Le, vx, vy), k.op(api.Eq, vx, vy), k.app("z"), k.op(api.Ite, p, number, number), -1}
	calls := map[string]func(m api.Model) api.Model{
		"Complete":      func(m api.Model) api.Model { return model.Complete(s, m) },
		"Complete, nil": func(m api.Model) api.Model { return model.Complete(nil, m) },
		"Find f":        func(m api.Model) api.Model { tb, _ := model.Find(m, "f"); return only(tb) },
		"Find y":        func(m api.Model) api.Model { tb, _ := model.Find(m, "y"); return only(tb) },
		"Find none":     func(m api.Model) api.Model { tb, _ := model.Find(m, "none"); return only(tb) },
		"Same":          func(m api.Model) api.Model { model.Same(m.Tables[0].Else, m.Tables[1].Else); return api.Model{} },
		"Zero":          func(m api.Model) api.Model { return alone(model.Zero(1)) },
	}
	for n := range wide().Tables {
		calls[fmt.Sprint("Apply, none of ", n)] = func(m api.Model) api.Model { return alone(model.Apply(m.Tables[n], m.Tables[3].Rows[0].Args[:2])) }
		calls[fmt.Sprint("Apply, one of ", n)] = func(m api.Model) api.Model { return alone(model.Apply(m.Tables[n], m.Tables[1].Rows[0].Args)) }
		calls[fmt.Sprint("Apply, without args of ", n)] = func(m api.Model) api.Model { return alone(model.Apply(m.Tables[n], nil)) }
	}
	for _, id := range terms {
		calls[fmt.Sprint("Eval of ", id)] = func(m api.Model) api.Model { v, _ := model.Eval(x, m, id); return alone(v) }
	}
	for what, call := range calls {
		m := roomyModel(wide())
		got := call(m)
		apart(t, what, got)
		want := modelText(got)
		next := call(m)
		wreck(got)
		if modelText(m) != modelText(wide()) || !roomMarked(m) {
			t.Errorf("P10.3: %s: what was handed in is changed", what)
		}
		if modelText(next) != want || modelText(call(m)) != want {
			t.Errorf("P10.3: %s: it is %s; was %s", what, modelText(next), want)
		}
		wreck(m)
		if modelText(next) != want {
			t.Errorf("P10.3: %s: it is %s since what was handed in was changed; was %s", what, modelText(next), want)
		}
	}
	if n, _ := x.Node(number); text(num("-8446744073709551617/36893488147419103233")) != text(api.Value{Sort: 1, Num: n.Val}) {
		t.Error("P10.3: a term's number was changed")
	}
}
