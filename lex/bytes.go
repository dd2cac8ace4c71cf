package lex

import "strings"

// marks are the signs that are neither letters nor digits.
const marks = "~!@$%^&*_-+=<>.?/"

func isBlank(c byte) bool { return c == ' ' || c == '\t' || c == '\n' || c == '\r' }

func isDigit(c byte) bool { return '0' <= c && c <= '9' }

func isLetter(c byte) bool { return 'a' <= c && c <= 'z' || 'A' <= c && c <= 'Z' }

func isSign(c byte) bool {
	return isLetter(c) || isDigit(c) || strings.IndexByte(marks, c) >= 0
}

// prints leaves out 127, a control byte as those below the blank are.
func prints(c byte) bool { return c > ' ' && c != 127 }

func inRemark(c byte) bool { return c != '\n' && c != '\r' }

func inText(c byte) bool { return c != '"' && (prints(c) || isBlank(c)) }

func inBars(c byte) bool { return c != '|' && c != '\\' && (prints(c) || isBlank(c)) }

// past is the first place from one on where no byte of a kind stands.
func past[T []byte | string](s T, at int, is func(byte) bool) int {
	for at < len(s) && is(s[at]) {
		at++
	}
	return at
}
