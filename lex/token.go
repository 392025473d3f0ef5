package lex

import (
	"strings"

	"loom/api"
)

const (
	// mostDigits: of an integer: as many nines are an int64 still.
	mostDigits = 18
	// mostCplxDigits: of a complex number: a float64 has each integer of so many.
	mostCplxDigits = 15
)

const (
	noteSign   = "//"
	shortSigns = "{}()[];,.=<+-*/%~"
)

// name: the name or the keyword that text begins with, its first byte a letter.
func name(text string) (api.Token, api.Errno) {
	s := head(text, isOfName)
	if len(s) > api.MaxName {
		return api.Token{}, api.ErrBig
	}
	if Word(s) {
		return api.Token{Kind: api.KWord, Text: s}, api.OK
	}
	return api.Token{Kind: api.KName, Text: s}, api.OK
}

// number: the number that text begins with, its first byte a digit.
func number(text string) (api.Token, api.Errno) {
	digits := head(text, isDigit)
	part, most := partBehind(text[len(digits):]), mostDigits
	if part != "" {
		most = mostCplxDigits
	}
	if len(digits) > most {
		return api.Token{}, api.ErrBig
	}
	s := text[:len(digits)+len(part)]
	if head(text[len(s):], isOfName) != "" {
		return api.Token{}, api.ErrToken
	}
	n := value(digits)
	switch part {
	case "c":
		return api.Token{Kind: api.KCplx, Text: s, Cplx: complex(float64(n), 0)}, api.OK
	case "i":
		return api.Token{Kind: api.KCplx, Text: s, Cplx: complex(0, float64(n))}, api.OK
	}
	return api.Token{Kind: api.KInt, Text: s, Int: n}, api.OK
}

// partBehind: the letter right behind a number's digits that makes it a part of a complex one; empty, if none does.
func partBehind(text string) string {
	if text != "" && (text[0] == 'c' || text[0] == 'i') {
		return text[:1]
	}
	return ""
}

// value: of at most mostDigits digits.
func value(digits string) int64 {
	var n int64
	for i := range len(digits) {
		n = n*10 + int64(digits[i]-'0')
	}
	return n
}

// sign: the longest sign that text begins with; ErrToken, if it is none.
func sign(text string) (api.Token, api.Errno) {
	switch {
	case strings.HasPrefix(text, "=="), strings.HasPrefix(text, "!="):
		return api.Token{Kind: api.KSign, Text: text[:2]}, api.OK
	case strings.IndexByte(shortSigns, text[0]) >= 0:
		return api.Token{Kind: api.KSign, Text: text[:1]}, api.OK
	}
	return api.Token{}, api.ErrToken
}

// head: the bytes that text begins with, as far as all of them are such ones.
func head(text string, such func(byte) bool) string {
	end := 0
	for end < len(text) && such(text[end]) {
		end++
	}
	return text[:end]
}

func isBlank(b byte) bool { return b == ' ' || b == '\t' || b == '\n' || b == '\r' }

// isLetter: `_` and `$` may stand wherever a letter may.
func isLetter(b byte) bool {
	return b >= 'a' && b <= 'z' || b >= 'A' && b <= 'Z' || b == '_' || b == '$'
}

func isDigit(b byte) bool { return b >= '0' && b <= '9' }

func isOfName(b byte) bool { return isLetter(b) || isDigit(b) }

func isOfLine(b byte) bool { return b != '\n' }
