package term_test

import (
	"testing"

	"theodolite/api"
)

// kin is which args an operator takes: how many, and of which sorts.
type kin struct {
	op, least, most int
	sorts           []int // any one of these, the same of all args
}

func kins() []kin {
	const many = 64
	return []kin{
		{api.True, 0, 0, nil}, {api.False, 0, 0, nil}, {api.Not, 1, 1, []int{0}},
		{api.And, 2, many, []int{0}}, {api.Or, 2, many, []int{0}}, {api.Imp, 2, many, []int{0}}, {api.Xor, 2, many, []int{0}},
		{api.Eq, 2, many, []int{0, 1, 2, 3}}, {api.Unlike, 2, many, []int{0, 1, 2, 3}},
		{api.Add, 2, many, []int{1}}, {api.Sub, 1, many, []int{1}}, {api.Mul, 2, many, []int{1}}, {api.Div, 2, many, []int{1}},
		{api.Le, 2, many, []int{1}}, {api.Lt, 2, many, []int{1}}, {api.Ge, 2, many, []int{1}}, {api.Gt, 2, many, []int{1}},
	}
}

// TestArgsOfAll tries each operator with all rows of up to four args, each of
// some sort. The Reals are numbers, so that products and divisions may be.
func TestArgsOfAll(t *testing.T) {
	m := start(t)
	ofSort := []int{m.app("p"), m.num(3, 1), m.app("a"), m.app("b")}
	for _, row := range rowsOf(4) {
		var args []int
		for _, sort := range row {
			args = append(args, ofSort[sort])
		}
		for _, k := range kins() {
			may := len(row) >= k.least && len(row) <= k.most && (len(row) == 0 || oneOf(row, k.sorts))
			if may {
				m.op(k.op, args...)
			} else {
				m.refused(api.ErrSort, k.op, "", api.Rat{}, args...)
			}
		}
		if len(row) == 3 && row[0] == 0 && row[1] == row[2] {
			m.is(m.op(api.Ite, args...), api.Node{Op: api.Ite, Args: args, Sort: row[1]})
		} else {
			m.refused(api.ErrSort, api.Ite, "", api.Rat{}, args...)
		}
	}
}

func TestArgsOfFunctions(t *testing.T) {
	m := start(t)
	ofSort := []int{m.app("p"), m.num(3, 1), m.app("a"), m.app("b")}
	of := map[string][]int{"x": nil, "p": nil, "a": nil, "f": {1}, "g": {2, 1}, "h": {1, 1, 3}}
	for _, row := range rowsOf(4) {
		var args []int
		for _, sort := range row {
			args = append(args, ofSort[sort])
		}
		for name, sorts := range of {
			if text(api.Node{Args: row}) == text(api.Node{Args: sorts}) {
				m.app(name, args...)
			} else {
				m.refused(api.ErrSort, api.App, name, api.Rat{}, args...)
			}
		}
		m.refused(api.ErrSort, api.App, "none", api.Rat{}, args...)
	}
}

// rowsOf is all rows of sorts 0 to 3, of up to n.
func rowsOf(n int) [][]int {
	rows := [][]int{nil}
	for k := 0; k < len(rows); k++ {
		if len(rows[k]) == n {
			break
		}
		for sort := range 4 {
			rows = append(rows, append(append([]int{}, rows[k]...), sort))
		}
	}
	return rows
}

// oneOf tells whether a row is of one sort, and that is one of some.
func oneOf(row, sorts []int) bool {
	for _, sort := range sorts {
		same := true
		for _, s := range row {
			same = same && s == sort
		}
		if same {
			return true
		}
	}
	return false
}

// TestNumbersByWriting: whether Mul takes what is written so beside x, and Div
// behind x.
func TestNumbersByWriting(t *testing.T) {
	m := start(t)
	x, two, nought, third := m.app("x"), m.num(2, 1), m.num(0, 1), m.num(-1, 3)
	minus := m.op(api.Sub, two)
	minusNought := m.op(api.Sub, nought)
	ratio := m.op(api.Div, two, minus, third)
	p := m.app("p")
	for _, c := range []struct {
		id            int
		number, other bool // other: and it is not 0
	}{
		{two, true, true}, {third, true, true}, {nought, true, false}, {minus, true, true}, {minusNought, true, false},
		{m.op(api.Sub, minus), true, true}, {m.op(api.Sub, minusNought), true, false}, {ratio, true, true},
		{m.op(api.Sub, ratio), true, true}, {m.op(api.Div, ratio, ratio), true, true},
		{m.op(api.Div, nought, two), true, false}, {m.op(api.Div, minusNought, ratio, two), true, false},
		{m.op(api.Sub, m.op(api.Div, nought, two)), true, false}, {m.op(api.Div, m.op(api.Sub, nought), two), true, false},
		{x, false, false}, {m.op(api.Sub, x), false, false}, {m.op(api.Div, x, two), false, false},
		{m.op(api.Add, two, two), false, false}, {m.op(api.Sub, two, third), false, false}, {m.op(api.Sub, two, two), false, false},
		{m.op(api.Mul, two, two), false, false}, {m.op(api.Mul, two, nought), false, false}, {m.op(api.Ite, p, two, two), false, false},
		{m.app("f", two), false, false}, {m.op(api.Div, m.op(api.Add, two, two), two), false, false},
		{m.op(api.Div, m.op(api.Sub, two, two), two), false, false}, {m.op(api.Sub, m.op(api.Mul, two, two)), false, false},
	} {
		for _, op := range []int{api.Mul, api.Div} {
			may := c.number && op == api.Mul || c.other
			if may {
				m.op(op, x, c.id)
				m.op(op, two, c.id)
				m.op(op, x, two, c.id)
				m.op(op, two, c.id, two)
			} else {
				m.refused(api.ErrSort, op, "", api.Rat{}, x, c.id)
				m.refused(api.ErrSort, op, "", api.Rat{}, x, two, c.id)
				m.refused(api.ErrSort, op, "", api.Rat{}, x, c.id, two)
			}
		}
		// One alone may be anything, where it may stand.
		m.op(api.Mul, two, c.id)
		m.op(api.Mul, c.id, two)
		m.op(api.Mul, nought, c.id, third)
		m.op(api.Div, c.id, two)
		m.refused(api.ErrSort, api.Div, "", api.Rat{}, c.id, nought)
		m.refused(api.ErrSort, api.Div, "", api.Rat{}, c.id, two, x)
	}
}

// TestNumbersFarDown: what is a number is told of a deep one, too.
func TestNumbersFarDown(t *testing.T) {
	m := start(t)
	x, deep, nought := m.app("x"), m.num(2, 1), m.num(0, 1)
	two := deep
	for range 5000 {
		deep = m.op(api.Sub, m.op(api.Div, deep, deep))
		nought = m.op(api.Div, nought, two, deep)
	}
	m.op(api.Div, x, deep)
	m.op(api.Mul, x, deep, nought)
	m.refused(api.ErrSort, api.Div, "", api.Rat{}, x, nought)
}
