package lex

import (
	"strings"
	"unicode/utf8"

	"diaeresis/api"
	"diaeresis/glyph"
)

const (
	quote     = "'"
	maxDigits = 18
	maxName   = 20
)

// rest is what is left of a line. Its methods are the rules that need nothing
// else: each tells the token that it begins with, or, if it does not fit, the
// zero token.
type rest struct {
	left string
}

// skip makes the next n bytes be left no more.
func (r *rest) skip(n int) {
	r.left = r.left[n:]
}

// token is one of the next bytes, of as many as it is told.
func (r rest) token(kind, size int, g string) api.Token {
	return api.Token{Kind: kind, Text: r.left[:size], Glyph: g}
}

// run is how many bytes come next, up to a rune that is not of a kind. A byte
// alone is read as a rune that is of none of the kinds here.
func (r rest) run(is func(rune) bool) int {
	for at, c := range r.left {
		if !is(c) {
			return at
		}
	}
	return len(r.left)
}

// nextGlyph is the glyph that comes next, and how many bytes it takes.
func (r rest) nextGlyph() (string, int) {
	return glyph.First(r.left)
}

// blank is all blanks and tabs that follow.
func (r rest) blank() api.Token {
	size := r.run(isBlank)
	if size == 0 {
		return api.Token{}
	}
	return r.token(api.TokBlank, size, "")
}

// remark is its glyph, and all that follows.
func (r rest) remark() api.Token {
	g, _ := r.nextGlyph()
	if glyph.Class(g) != api.ClassRemark {
		return api.Token{}
	}
	return r.token(api.TokRemark, len(r.left), g)
}

// quoted is a text; without its last quote it is all that follows.
func (r rest) quoted() api.Token {
	if !strings.HasPrefix(r.left, quote) {
		return api.Token{}
	}
	at := len(quote)
	for {
		body := strings.Index(r.left[at:], quote)
		if body < 0 {
			return r.token(api.TokOther, len(r.left), "")
		}
		at += body + len(quote)
		if !strings.HasPrefix(r.left[at:], quote) {
			return r.token(api.TokText, at, "")
		}
		at += len(quote)
	}
}

// number is a minus, or none, and digits; too few of them, or too many, are no
// number, but one token, too.
func (r rest) number() api.Token {
	minus, from := r.minus()
	digits := rest{r.left[from:]}.run(isDigit)
	size := from + digits
	switch {
	case size == 0:
		return api.Token{}
	case digits == 0 || digits > maxDigits:
		return r.token(api.TokOther, size, "")
	}
	return r.token(api.TokNumber, size, shortest(minus, r.left[from:size]))
}

// minus is the glyph of a number below 0, if that comes next, and how many bytes
// it takes.
func (r rest) minus() (string, int) {
	g, size := r.nextGlyph()
	if glyph.Class(g) != api.ClassMinus {
		return "", 0
	}
	return g, size
}

// shortest is a number as it is written without zeros ahead; 0 has no minus.
func shortest(minus, digits string) string {
	digits = strings.TrimLeft(digits, "0")
	if digits == "" {
		return "0"
	}
	return minus + digits
}

// name is a letter, and letters and digits; too many of them are no name, but
// one token, too.
func (r rest) name() api.Token {
	if r.run(isLetter) == 0 {
		return api.Token{}
	}
	size := r.run(isNameRune)
	if size > maxName {
		return r.token(api.TokOther, size, "")
	}
	return r.token(api.TokName, size, "")
}

// other is a rune, or a byte alone: the library takes for a rune what chapter 2
// does.
func (r rest) other() api.Token {
	_, size := utf8.DecodeRuneInString(r.left)
	return r.token(api.TokOther, size, "")
}

func isBlank(c rune) bool { return c == ' ' || c == '\t' }

func isDigit(c rune) bool { return c >= '0' && c <= '9' }

func isLetter(c rune) bool {
	return c >= 'a' && c <= 'z' || c >= 'A' && c <= 'Z' || c == '_'
}

func isNameRune(c rune) bool { return isLetter(c) || isDigit(c) }
