package glyph

import "strings"

// rest is what is left of a text.
type rest struct {
	left string
}

// take is the next n bytes, which are left no more.
func (r *rest) take(n int) string {
	s := r.left[:n]
	r.left = r.left[n:]
	return s
}

// first is the sign that what is left begins with, and how many bytes that
// takes. No spelling begins with another one: there is at most one that fits.
func (r rest) first() (sign, int) {
	var found sign
	size := 0
search:
	for x := range signs() {
		for _, s := range [...]string{x.glyph, x.digraph} {
			if s != "" && strings.HasPrefix(r.left, s) {
				found, size = x, len(s)
				break search
			}
		}
	}
	return found, size
}

// next is the sign that comes next, how many bytes are ahead of it, and how many
// it takes. It looks at each byte, not at runes: a glyph's bytes stand together
// only where its rune does.
func (r rest) next() (int, sign, int) {
	for at := range len(r.left) {
		x, size := rest{r.left[at:]}.first()
		if x != (sign{}) {
			return at, x, size
		}
	}
	return len(r.left), sign{}, 0
}

// reader goes through a text, and writes it anew.
type reader struct {
	rest
	out []byte
}

func read(s string) *reader {
	return &reader{rest: rest{s}}
}

// put writes texts, one behind the other.
func (r *reader) put(texts ...string) {
	for _, s := range texts {
		r.out = append(r.out, s...)
	}
}

// spell is the text, each sign in it as it is told, all else as it is. What is
// written is not read again: a backtick that was left alone stays so.
func (r *reader) spell(as func(sign) string) string {
	for {
		ahead, x, size := r.next()
		if x == (sign{}) {
			goto out
		}
		r.put(r.take(ahead), as(x))
		r.take(size)
	}
out:
	r.put(r.left)
	return string(r.out)
}
