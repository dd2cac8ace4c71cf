package lex

import (
	"strings"

	"theodolite/api"
)

// reader goes through a script, and keeps the words that it has read.
type reader struct {
	script []byte
	from   int // where the word that is read begins
	at     int // the byte that comes next
	words  []api.Word
}

// all reads to the script's end, and tells whether nothing but words was there.
// It goes from state to state: between words, within a text (where a doubled
// quote leads back to its head), between bars, or in a number.
func (r *reader) all() bool {
between:
	r.skip(isBlank)
	if r.at == len(r.script) {
		return true
	}
	switch first := r.begin(); {
	case first == ';':
		r.skip(inRemark)
		goto between
	case first == '(':
		r.end(api.Open, "")
		goto between
	case first == ')':
		r.end(api.Close, "")
		goto between
	case first == '"':
		goto text
	case first == '|':
		goto bars
	case first == ':' && isSign(r.next()):
		r.skip(isSign)
		r.end(api.Keyword, r.within(1, 0))
		goto between
	case isDigit(first):
		goto number
	case isSign(first):
		r.skip(isSign)
		r.end(api.Symbol, r.within(0, 0))
		goto between
	}
	return false

text:
	r.skip(inText)
	if !r.took('"') {
		return false
	}
	if r.took('"') {
		goto text
	}
	r.end(api.Text, strings.ReplaceAll(r.within(1, 1), `""`, `"`))
	goto between

bars:
	r.skip(inBars)
	if !r.took('|') {
		return false
	}
	r.end(api.Symbol, r.within(1, 1))
	goto between

number:
	if !r.number() {
		return false
	}
	goto between
}

// number reads a numeral or a decimal to its end, and tells whether it is one.
func (r *reader) number() bool {
	kind := api.Numeral
	r.skip(isDigit)
	if r.script[r.from] == '0' && r.at-r.from > 1 {
		return false
	}
	if r.took('.') {
		kind = api.Decimal
		if !isDigit(r.next()) {
			return false
		}
		r.skip(isDigit)
	}
	if isSign(r.next()) {
		return false
	}
	r.end(kind, r.within(0, 0))
	return true
}

// begin begins a word at the byte that comes next, of which there must be one,
// and goes on past that.
func (r *reader) begin() byte {
	r.from = r.at
	r.at++
	return r.script[r.from]
}

// end keeps the word that ends here.
func (r *reader) end(kind int, text string) {
	r.words = append(r.words, api.Word{Kind: kind, Text: text, At: r.from})
}

// within is the bytes of the word that ends here, but some ahead and behind.
func (r *reader) within(ahead, behind int) string {
	return string(r.script[r.from+ahead : r.at-behind])
}

// next is the byte that comes next. At the end it is 0, which no word begins
// with or goes on with.
func (r *reader) next() byte {
	if r.at == len(r.script) {
		return 0
	}
	return r.script[r.at]
}

// skip goes on past bytes of a kind.
func (r *reader) skip(is func(byte) bool) { r.at = past(r.script, r.at, is) }

// took goes on past one byte, if it is that one.
func (r *reader) took(c byte) bool {
	if r.next() != c {
		return false
	}
	r.at++
	return true
}
