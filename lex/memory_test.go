package lex_test

import (
	"slices"
	"strings"
	"testing"
	"unsafe"

	"theodolite/api"
	"theodolite/lex"
)

const told = "(a |b c| \"d\"\"e\" :fg 12 3.50 hij)"

func TestScriptIsNotKept(t *testing.T) {
	room := []byte("##" + told + "####")
	b := room[2 : 2+len(told)]
	l, e := lex.All(b)
	if e != api.OK || len(l) != 9 {
		t.Fatalf("P11.3: %v, %d", l, e)
	}
	if string(room) != "##"+told+"####" {
		t.Errorf("P11.3: what was handed in is %q", room)
	}
	before := slices.Clone(l)
	for k := range room {
		room[k] = 'z'
	}
	want := []api.Word{open(0), symbol("a", 1), symbol("b c", 3), text("d\"e", 9), keyword("fg", 16), numeral("12", 20), decimal("3.50", 23), symbol("hij", 28), closed(31)}
	if !slices.Equal(l, want) || !slices.Equal(before, want) {
		t.Errorf("P11.3: %v, since the bytes were changed", l)
	}
	wrong := []byte(told + "#")
	if l, e := lex.All(wrong); e != api.ErrBad || len(l) != 0 || string(wrong) != told+"#" {
		t.Errorf("P11.3: %v, %d, of %q", l, e, wrong)
	}
}

func TestWordsAreNew(t *testing.T) {
	b := []byte(told)
	l, _ := lex.All(b)
	m, _ := lex.All(b)
	want := slices.Clone(m)
	l = l[:cap(l)]
	for k := range l {
		l[k] = symbol("spoilt", -1)
	}
	if n, e := lex.All(b); e != api.OK || !slices.Equal(m, want) || !slices.Equal(n, want) {
		t.Errorf("P11.3: %v and %v, since another answer was changed", m, n)
	}
}

// TestNameIsNew: what Quote writes must not keep the text that a name is a piece
// of.
func TestNameIsNew(t *testing.T) {
	script := strings.Repeat("name ", 1000)
	for _, s := range []string{script[:4], script[4:9], script} {
		q, e := lex.Quote(s)
		if e != api.OK || unsafe.StringData(q) == unsafe.StringData(s) {
			t.Errorf("P11.3: Quote(%.20q): %.20q, %d, in the same memory", s, q, e)
		}
	}
}
