package lex_test

import (
	"slices"
	"strings"
	"testing"

	"theodolite/api"
	"theodolite/lex"
)

const reserved = "true false not and or => xor = distinct ite let + - * / <= < >= > Bool Real _ ! as exists forall par"

func wantPlain(t *testing.T, s string, want bool) {
	t.Helper()
	if got := lex.Plain(s); got != want {
		t.Errorf("P11.2: Plain(%.60q): %v", s, got)
	}
}

func wantQuote(t *testing.T, s, want string, e api.Errno) {
	t.Helper()
	if got, gotE := lex.Quote(s); got != want || gotE != e {
		t.Errorf("P11.2: Quote(%.60q): %.60q, %d; want %.60q, %d", s, got, gotE, want, e)
	}
}

func TestPlain(t *testing.T) {
	for _, s := range append(strings.Fields(reserved), "a", signs, "-1", ".5", "x1", "a.b", "?", "Let", strings.Repeat("a", 70000)) {
		wantPlain(t, s, true)
	}
	for _, s := range []string{"", " ", "1", "1a", "0", "1.5", "a b", " a", "a ", "a\n", ":a", "a:b", "|a|", "a|", "||", "(", "a)", "\"a\"", "a;", "a\\", "a#", "é", "aé", "a\x00", "a\x7f", "a\xff", strings.Repeat("a", 70000) + "#"} {
		wantPlain(t, s, false)
	}
	for c := range 256 {
		b := string([]byte{byte(c)})
		wantPlain(t, b, hasByte(signs, byte(c)) && !hasByte(digits, byte(c)))
		wantPlain(t, "a"+b, hasByte(signs, byte(c)))
		wantPlain(t, "-"+b+"a", hasByte(signs, byte(c)))
	}
}

func TestQuote(t *testing.T) {
	for _, w := range strings.Fields(reserved) {
		wantQuote(t, w, "|"+w+"|", api.OK)
		wantQuote(t, w+w, w+w, api.OK)
		wantQuote(t, w+" ", "|"+w+" |", api.OK)
		wantQuote(t, "|"+w+"|", "", api.ErrBad)
	}
	for _, s := range []string{"a", signs, "-1", ".5", "Let", "true1", "assert", strings.Repeat("a", 70000)} {
		wantQuote(t, s, s, api.OK)
	}
	for _, s := range []string{"", " ", "1", "0.5", "1a", "a b", "a\r\n\tb", ":a", "(a)", "\"", ";", "#", "é", "\x80\xff", "a'", strings.Repeat("a", 70000) + " "} {
		wantQuote(t, s, "|"+s+"|", api.OK)
	}
	for _, s := range []string{"|", "\\", "a|b", "|a|", "a\\", "\x00", "a\x00", "\x1f", "a\x7fb", "\x0b", "1|", "a b\\", "let\x00", strings.Repeat("a ", 70000) + "|"} {
		wantQuote(t, s, "", api.ErrBad)
	}
	for c := range 256 {
		b := string([]byte{byte(c)})
		for _, s := range []string{"a" + b, b + "b", "a b" + b + "c"} {
			switch {
			case hasByte("|\\", byte(c)) || !stands(byte(c)):
				wantQuote(t, s, "", api.ErrBad)
			case hasByte(signs, byte(c)) && s[0] != ' ' && !hasByte(digits, s[0]) && !hasByte(s, ' ') && s != "as":
				wantQuote(t, s, s, api.OK)
			case !hasByte(signs, byte(c)):
				wantQuote(t, s, "|"+s+"|", api.OK)
			}
		}
	}
}

// TestNamesRead holds Plain and Quote against All: what is Plain is one word as
// it stands, and what Quote writes is read as the name.
func TestNamesRead(t *testing.T) {
	for s := range short("a0.|\"\\ \n\x00\xff:(-", 4) {
		l, e := lex.All([]byte(s))
		plain := e == api.OK && slices.Equal(l, []api.Word{symbol(s, 0)})
		wantPlain(t, s, plain)
		l, e = lex.All([]byte("|" + s + "|"))
		barred := e == api.OK && slices.Equal(l, []api.Word{symbol(s, 0)})
		switch {
		case plain && s != "-":
			wantQuote(t, s, s, api.OK)
		case barred:
			wantQuote(t, s, "|"+s+"|", api.OK)
		default:
			wantQuote(t, s, "", api.ErrBad)
		}
	}
}
