package lex_test

import (
	"slices"
	"strings"
	"testing"

	"theodolite/api"
	"theodolite/lex"
)

// A few short forms of words.
func open(at int) api.Word              { return api.Word{Kind: api.Open, At: at} }
func closed(at int) api.Word            { return api.Word{Kind: api.Close, At: at} }
func symbol(s string, at int) api.Word  { return api.Word{Kind: api.Symbol, Text: s, At: at} }
func keyword(s string, at int) api.Word { return api.Word{Kind: api.Keyword, Text: s, At: at} }
func numeral(s string, at int) api.Word { return api.Word{Kind: api.Numeral, Text: s, At: at} }
func decimal(s string, at int) api.Word { return api.Word{Kind: api.Decimal, Text: s, At: at} }
func text(s string, at int) api.Word    { return api.Word{Kind: api.Text, Text: s, At: at} }

// wantAll holds what All tells of a script.
func wantAll(t *testing.T, script string, e api.Errno, want ...api.Word) {
	t.Helper()
	got, gotE := lex.All([]byte(script))
	if gotE != e || !slices.Equal(got, want) {
		t.Errorf("P11.1: %.60q: %v, %d; want %v, %d", script, got, gotE, want, e)
	}
}

// wantWords holds a script against its words.
func wantWords(t *testing.T, script string, want ...api.Word) {
	t.Helper()
	wantAll(t, script, api.OK, want...)
}

// wantBad wants of scripts that they have no words.
func wantBad(t *testing.T, scripts ...string) {
	t.Helper()
	for _, s := range scripts {
		wantAll(t, s, api.ErrBad)
		wantAll(t, "(a) "+s, api.ErrBad)
	}
}

// bytesOf is all bytes that are so.
func bytesOf(is func(c byte) bool) []byte {
	var all []byte
	for c := range 256 {
		if is(byte(c)) {
			all = append(all, byte(c))
		}
	}
	return all
}

// hasByte tells whether a byte stands in a text, as strings.ContainsRune can't
// of bytes above 127.
func hasByte(s string, c byte) bool { return strings.IndexByte(s, c) >= 0 }

const (
	blanks  = " \t\n\r"
	digits  = "0123456789"
	letters = "abcdefghijklmnopqrstuvwxyzABCDEFGHIJKLMNOPQRSTUVWXYZ"
	signs   = letters + digits + "~!@$%^&*_-+=<>.?/"
)

// stands tells whether a byte prints or is a blank.
func stands(c byte) bool { return 33 <= c && c <= 126 || c >= 128 || hasByte(blanks, c) }

func TestExample(t *testing.T) {
	wantWords(t, "(a|b c|1.50)", open(0), symbol("a", 1), symbol("b c", 2), decimal("1.50", 7), closed(11))
}

func TestScript(t *testing.T) {
	wantWords(t, "; one\n(set-info :source |\na ; b|)\r\n(assert (<= x 0.50 12))\t(echo \"say \"\"so\"\"; or (not\") ; end",
		open(6), symbol("set-info", 7), keyword("source", 16), symbol("\na ; b", 24), closed(32),
		open(35), symbol("assert", 36), open(43), symbol("<=", 44), symbol("x", 47), decimal("0.50", 49), numeral("12", 54), closed(56), closed(57),
		open(59), symbol("echo", 60), text("say \"so\"; or (not", 65), closed(86))
}

func TestSize(t *testing.T) {
	for _, fill := range []string{" ", "(", "a", "1", ";", "\"\"", "|a|"} {
		s := strings.Repeat(fill, api.MaxBytes)[:api.MaxBytes]
		if _, e := lex.All([]byte(s)); e == api.ErrBig {
			t.Errorf("P11.1: %d bytes of %s are too big", len(s), fill)
		}
		for _, more := range []string{" ", "#", "\x00", strings.Repeat("a", 100000)} {
			wantAll(t, s+more, api.ErrBig)
			wantAll(t, more+s, api.ErrBig)
		}
	}
	l, e := lex.All([]byte(strings.Repeat("()", api.MaxBytes/2)))
	if e != api.OK || len(l) != api.MaxBytes || l[api.MaxBytes-1] != closed(api.MaxBytes-1) {
		t.Errorf("P11.1: %d words, %d", len(l), e)
	}
	long := strings.Repeat("a", api.MaxBytes-2)
	wantWords(t, "\""+long+"\"", text(long, 0))
	wantWords(t, "|"+long+"|", symbol(long, 0))
	wantWords(t, ":"+long, keyword(long, 0))
	wantWords(t, " 1"+strings.Repeat("0", api.MaxBytes-2), numeral("1"+strings.Repeat("0", api.MaxBytes-2), 1))
	wantBad(t, "\""+long[:1000], "|"+long[:1000])
	wantAll(t, "\""+long+"a", api.ErrBad)
	wantAll(t, strings.Repeat("\"\"", api.MaxBytes/2), api.OK, text(strings.Repeat("\"", api.MaxBytes/2-1), 0))
}

func TestBlanks(t *testing.T) {
	for _, none := range []string{"", " ", "\t", "\n", "\r", " \t\n\r\r\n\t ", ";", ";;", "; a", ";\"", ";|", ";\n", ";\r;", "\n;a\n ; (b \r"} {
		wantWords(t, none)
	}
	if l, e := lex.All(nil); len(l) != 0 || e != api.OK {
		t.Errorf("P11.1: of none: %v, %d", l, e)
	}
	for c := range 256 {
		s := "a" + string([]byte{byte(c)}) + "b"
		if hasByte(blanks, byte(c)) {
			wantWords(t, s, symbol("a", 0), symbol("b", 2))
		} else if l, e := lex.All([]byte(s)); e == api.OK && len(l) == 2 && l[1] == symbol("b", 2) {
			t.Errorf("P11.1: %d is a blank", c)
		}
	}
	for _, c := range bytesOf(func(c byte) bool { return c != '\n' && c != '\r' }) {
		s := "a;" + string([]byte{c})
		wantWords(t, s, symbol("a", 0))
		wantWords(t, s+"b", symbol("a", 0))
		wantWords(t, s+"(;\"|#\n b", symbol("a", 0), symbol("b", 10))
		wantWords(t, s+"\rb", symbol("a", 0), symbol("b", 4))
	}
	wantWords(t, "a;\n;\r;b\n\rc", symbol("a", 0), symbol("c", 9))
}

// TestFirstBytes goes through all bytes that may stand alone.
func TestFirstBytes(t *testing.T) {
	for c := range 256 {
		s := string([]byte{byte(c)})
		switch {
		case hasByte(blanks+";", byte(c)):
			wantWords(t, s)
		case s == "(":
			wantWords(t, s, open(0))
		case s == ")":
			wantWords(t, s, closed(0))
		case hasByte(digits, byte(c)):
			wantWords(t, s, numeral(s, 0))
		case hasByte(signs, byte(c)):
			wantWords(t, s, symbol(s, 0))
		default:
			wantBad(t, s)
		}
	}
}

func TestSymbols(t *testing.T) {
	for c := range 256 {
		s := string([]byte{'a', byte(c)})
		l, e := lex.All([]byte(s))
		one := e == api.OK && slices.Equal(l, []api.Word{symbol(s, 0)})
		if one != hasByte(signs, byte(c)) {
			t.Errorf("P11.1: %q: %v, %d", s, l, e)
		}
	}
	for _, s := range []string{signs, "let", "true", "-1", "+0", ".5", "a1.5", "-", "/", "x.", "a-b", "?", "=>", "!", "_", "e9"} {
		wantWords(t, s, symbol(s, 0))
		wantWords(t, "("+s+")", open(0), symbol(s, 1), closed(1+len(s)))
	}
	wantWords(t, "a(b)c", symbol("a", 0), open(1), symbol("b", 2), closed(3), symbol("c", 4))
	wantWords(t, "a:b|c|\"d\"e", symbol("a", 0), keyword("b", 1), symbol("c", 3), text("d", 6), symbol("e", 9))
	wantBad(t, "a#", "a'", "a,", "a\\", "a\x00", "a\x7f", "a\x80", "é", "aé", "[a]", "{a}", "`a", "#b1", "#x0f")
}

func TestBars(t *testing.T) {
	for c := range 256 {
		b := string([]byte{byte(c)})
		s := "|" + b + "|"
		switch {
		case b == "|":
			wantBad(t, s)
			wantWords(t, s+"|", symbol("", 0), symbol("", 2))
		case stands(byte(c)) && b != "\\":
			wantWords(t, s, symbol(b, 0))
			wantWords(t, "|a"+b+"|"+s+"b", symbol("a"+b, 0), symbol(b, 4), symbol("b", 7))
		default:
			wantBad(t, s, "|a"+b+"b|")
		}
	}
	wantWords(t, "||", symbol("", 0))
	wantWords(t, "|a||b|", symbol("a", 0), symbol("b", 3))
	wantWords(t, "|a|b|c|", symbol("a", 0), symbol("b", 3), symbol("c", 4))
	wantWords(t, "|a;\n\"(|)", symbol("a;\n\"(", 0), closed(7))
	wantWords(t, "|1|1", symbol("1", 0), numeral("1", 3))
	wantBad(t, "|", "|a", "|||", "||a|", "|a\n", "a|", "|\\|", "|a\\||", "|a;|b|")
}

func TestTexts(t *testing.T) {
	for c := range 256 {
		b := string([]byte{byte(c)})
		s := "\"" + b + "\""
		switch {
		case b == "\"":
			wantBad(t, s)
			wantWords(t, s+"\"", text("\"", 0))
		case stands(byte(c)):
			wantWords(t, s, text(b, 0))
			wantWords(t, "\"a\"\""+b+"b\"c", text("a\""+b+"b", 0), symbol("c", 7))
		default:
			wantBad(t, s, "\"a"+b+"b\"", "\"\"\""+b+"\"")
		}
	}
	wantWords(t, `""`, text("", 0))
	wantWords(t, `""""`, text(`"`, 0))
	wantWords(t, `""""""`, text(`""`, 0))
	wantWords(t, `"""a"""`, text(`"a"`, 0))
	wantWords(t, `"a""b""""c"`, text(`a"b""c`, 0))
	wantWords(t, `"a" "b"`, text("a", 0), text("b", 4))
	wantWords(t, `"\"a`, text(`\`, 0), symbol("a", 3))
	wantWords(t, `"\n|;(" )`, text(`\n|;(`, 0), closed(8))
	wantWords(t, "\"a\r\n\tb\"", text("a\r\n\tb", 0))
	wantBad(t, `"`, `"a`, `"""`, `"a""`, `"a""b`, `"""""`, `"a" "`, `a"`)
}

func TestKeywords(t *testing.T) {
	for c := range 256 {
		b := string([]byte{byte(c)})
		if hasByte(signs, byte(c)) {
			wantWords(t, ":"+b, keyword(b, 0))
			wantWords(t, ":a"+b+")", keyword("a"+b, 0), closed(3))
			continue
		}
		wantBad(t, ":"+b, ":"+b+"a")
	}
	for _, s := range []string{signs, "1", "1.5", "01", "1.", "1.x", "-", "let"} {
		wantWords(t, "("+":"+s+")", open(0), keyword(s, 1), closed(2+len(s)))
	}
	wantWords(t, ":a:b", keyword("a", 0), keyword("b", 2))
	wantWords(t, ":a\"b\":c|d|", keyword("a", 0), text("b", 2), keyword("c", 5), symbol("d", 7))
	wantBad(t, ":", "::", "::a", ": a", ":|a|", ":\"a\"", ":a:", ":a#", ":a\x00")
}

func TestNumbers(t *testing.T) {
	for _, s := range []string{"0", "1", "9", "10", "907", digits[1:] + "0", "18446744073709551616", "1" + strings.Repeat("0", 2000)} {
		wantWords(t, s, numeral(s, 0))
		wantWords(t, "("+s+")", open(0), numeral(s, 1), closed(1+len(s)))
		for _, places := range []string{"0", "5", "00", "01", "50", digits, strings.Repeat("0", 3000) + "1"} {
			d := s + "." + places
			wantWords(t, d, decimal(d, 0))
			wantWords(t, d+"("+d, decimal(d, 0), open(len(d)), decimal(d, 1+len(d)))
		}
	}
	wantBad(t, "00", "01", "007", "00.5", "01.5", "1.", "0.", "1. 5", "1.(", "1.\"", "1..5", "1.5.", "1.5.2", "0.5.", "1.a", "1.-5", "0x1", "1e5", "0-", "1.0e5", "1.5a", "10a", "0 00", "1.:a")
	for c := range 256 {
		b := string([]byte{byte(c)})
		for _, s := range []string{"0", "12", "0.5", "12.05"} {
			word := numeral(s, 1)
			if strings.Contains(s, ".") {
				word = decimal(s, 1)
			}
			switch {
			case b == "(":
				wantWords(t, " "+s+b, word, open(1+len(s)))
			case b == ")":
				wantWords(t, " "+s+b, word, closed(1+len(s)))
			case hasByte(blanks+";", byte(c)):
				wantWords(t, " "+s+b, word)
			case b == ":":
				wantBad(t, s+b)
				wantWords(t, " "+s+b+"a", word, keyword("a", 1+len(s)))
			case b == "\"":
				wantWords(t, " "+s+b+b, word, text("", 1+len(s)))
			case b == "|":
				wantWords(t, " "+s+b+b, word, symbol("", 1+len(s)))
			case !hasByte(digits, byte(c)):
				wantBad(t, s+b, s+b+"a")
			case s == "0":
				wantBad(t, s+b)
			}
		}
	}
}

func TestOneFault(t *testing.T) {
	const good = "(set-logic |a b|) ; so\n(echo \"x \"\"y\"\"\") :k 0 1.50 "
	if l, e := lex.All([]byte(good)); e != api.OK || len(l) != 11 {
		t.Fatalf("P11.1: %v, %d", l, e)
	}
	for _, wrong := range []string{"#", "\\", ",", "'", "00", "1a", ":", "|", "\"", "\x00", "\x7f", "\x80", "\xff", "é"} {
		wantBad(t, good+wrong, wrong+" "+good+"#", good+wrong+"\n;"+good)
	}
}
