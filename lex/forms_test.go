package lex_test

import (
	"iter"
	"math/rand"
	"regexp"
	"slices"
	"strings"
	"testing"

	"theodolite/api"
	"theodolite/lex"
)

// form is how a word may be written, where each byte is taken as the rune of its
// number.
type form struct {
	kind int // 0 of what only parts words
	at   *regexp.Regexp
}

const (
	aStart  = "[a-zA-Z~!@$%^&*_\\-+=<>.?/]"
	aSign   = "[a-zA-Z0-9~!@$%^&*_\\-+=<>.?/]"
	aNumber = "(?:0|[1-9][0-9]*)"
)

// forms are those of the document; beside them stands that a number is glued to
// no sign.
func forms() []form {
	of := func(kind int, s string) form { return form{kind, regexp.MustCompile("^(?:" + s + ")")} }
	return []form{
		of(0, `[ \t\n\r]+|;[^\n\r]*`),
		of(api.Open, `\(`), of(api.Close, `\)`),
		of(api.Text, `"(?:[\t\n\r -!#-~\x{80}-\x{ff}]|"")*"`),
		of(api.Symbol, `\|[\t\n\r -\[\]-{}~\x{80}-\x{ff}]*\|`),
		of(api.Keyword, `:`+aSign+`+`),
		of(api.Decimal, aNumber+`\.[0-9]+`),
		of(api.Numeral, aNumber),
		of(api.Symbol, aStart+aSign+`*`),
	}
}

var glued = regexp.MustCompile("^" + aSign)

// wide is bytes as runes of the same numbers.
func wide(s string) string {
	var out []rune
	for k := range len(s) {
		out = append(out, rune(s[k]))
	}
	return string(out)
}

// narrow is what wide was made of.
func narrow(s string) string {
	var out []byte
	for _, r := range s {
		out = append(out, byte(r))
	}
	return string(out)
}

// cut is the first word of a script (as wide has it), and what kind it is of.
func cut(script string, all []form) (kind int, word string, ok bool) {
	for _, f := range all {
		if word = f.at.FindString(script); word == "" {
			continue
		}
		bare := f.kind == api.Numeral || f.kind == api.Decimal
		return f.kind, word, !bare || !glued.MatchString(script[len(word):])
	}
	return 0, "", false
}

// plainAll is the words of a script, by the forms.
func plainAll(script string, all []form) ([]api.Word, api.Errno) {
	var words []api.Word
	left, at := wide(script), 0
	for left != "" {
		kind, word, ok := cut(left, all)
		if !ok {
			return nil, api.ErrBad
		}
		left = left[len(word):]
		w := api.Word{Kind: kind, Text: narrow(word), At: at}
		at += len(w.Text)
		switch {
		case kind == 0:
			continue
		case kind == api.Open || kind == api.Close:
			w.Text = ""
		case kind == api.Text:
			w.Text = strings.ReplaceAll(w.Text[1:len(w.Text)-1], `""`, `"`)
		case kind == api.Keyword:
			w.Text = w.Text[1:]
		case w.Text[0] == '|':
			w.Text = w.Text[1 : len(w.Text)-1]
		}
		words = append(words, w)
	}
	return words, api.OK
}

// short is all texts of some bytes, of at most so many.
func short(of string, most int) iter.Seq[string] {
	return func(yield func(string) bool) {
		row := []string{""}
		for size := 0; ; size++ {
			var longer []string
			for _, s := range row {
				if !yield(s) {
					return
				}
				for k := range len(of) {
					longer = append(longer, s+of[k:k+1])
				}
			}
			if size == most {
				return
			}
			row = longer
		}
	}
}

func wantForms(t *testing.T, script string, all []form) {
	t.Helper()
	want, e := plainAll(script, all)
	got, gotE := lex.All([]byte(script))
	if gotE != e || !slices.Equal(got, want) {
		t.Fatalf("P11.1: %q: %v, %d; want %v, %d", script, got, gotE, want, e)
	}
}

// TestShortScripts holds all short scripts against the forms.
func TestShortScripts(t *testing.T) {
	all := forms()
	for s := range short("()\"|:;a01. \n\\#\x00\x7f\xff-", 4) {
		wantForms(t, s, all)
	}
	for s := range short("\"| a", 7) {
		wantForms(t, s, all)
	}
	for s := range short("01.a(", 6) {
		wantForms(t, s, all)
	}
}

// TestMixedScripts holds long ones of pieces, most of which may be.
func TestMixedScripts(t *testing.T) {
	all := forms()
	pieces := []string{
		"(", ")", " ", "\n", "\r", "\t", "a", "b-c", "x1", "-", "0", "7", "10", "1.5", "0.50", ".", ":k", ":", "\"", "\"\"", "\"a b\"", "\"x\"\"y\"", "|", "||", "|a b|", "|;\n|",
		"; so\n", ";\r", ";", "é", "\xff", "let",
	}
	rare := []string{"#", "\\", "\x00", "\x7f", "'", "00", "1a"}
	right := 0
	for seed := range int64(30000) {
		r := rand.New(rand.NewSource(seed))
		var s strings.Builder
		for range 1 + r.Intn(14) {
			if r.Intn(80) == 0 {
				s.WriteString(rare[r.Intn(len(rare))])
			} else {
				s.WriteString(pieces[r.Intn(len(pieces))])
			}
		}
		wantForms(t, s.String(), all)
		if _, e := lex.All([]byte(s.String())); e == api.OK {
			right++
		}
	}
	if right < 3000 {
		t.Errorf("only %d scripts have words", right)
	}
}

// TestAnyBytes holds scripts of all bytes against the forms.
func TestAnyBytes(t *testing.T) {
	all := forms()
	for seed := range int64(20000) {
		r := rand.New(rand.NewSource(seed))
		b := make([]byte, r.Intn(12))
		for k := range b {
			b[k] = byte(r.Intn(256))
		}
		frame := []string{"", "\"", "|", ";", "a"}[r.Intn(5)]
		wantForms(t, frame+string(b)+frame, all)
	}
}
