package group

import (
	"iter"
	"slices"

	"diaeresis/api"
)

// none is the partner of what is no bracket.
const none = -1

// pairs are the places of tokens' partners, by the tokens' own.
type pairs []int

// opens tells whether a bracket that opens stands at a place.
func (p pairs) opens(at int) bool {
	return at >= 0 && at < len(p) && p[at] > at
}

// closes tells whether one that closes stands there.
func (p pairs) closes(at int) bool {
	return p[at] != none && p[at] < at
}

// depths goes through the places, each with how deep the token is.
func (p pairs) depths() iter.Seq2[int, int] {
	return func(yield func(int, int) bool) {
		depth := 0
		for at := range p {
			if p.closes(at) {
				depth--
			}
			if !yield(at, depth) {
				return
			}
			if p.opens(at) {
				depth++
			}
		}
	}
}

// waiting is a bracket without a partner so far: where it stands, and what would
// close it, bare. Nothing closes one that closes.
type waiting struct {
	at     int
	closer api.Token
}

// stack are brackets that wait, the last one on top.
type stack struct {
	list []waiting
}

func (s *stack) push(list ...waiting) {
	s.list = append(s.list, list...)
}

// top is the last one, or, if there is none, one that nothing closes, at none.
func (s *stack) top() waiting {
	if len(s.list) == 0 {
		return waiting{at: none}
	}
	return s.list[len(s.list)-1]
}

// pop takes the top away, and is where that stands.
func (s *stack) pop() int {
	x := s.top()
	s.list = s.list[:len(s.list)-1]
	return x.at
}

// matcher finds partners, from the left.
type matcher struct {
	stack
	pairs   pairs
	closers map[api.Token]api.Token
}

// closers are, of each bracket, bare, what closes: its partner, if it opens, or
// itself.
func closers() map[api.Token]api.Token {
	return map[api.Token]api.Token{
		sign("("): sign(")"),
		sign(")"): sign(")"),
		sign("{"): sign("}"),
		sign("}"): sign("}"),
	}
}

// partners are those of a list's tokens, or what is wrong with its brackets:
// first of all that they don't match, wherever it is.
func partners(l []api.Token) (pairs, error) {
	m := matcher{closers: closers(), pairs: slices.Repeat(pairs{none}, len(l))}
	m.match(l)
	if at := m.top().at; at != none {
		return nil, wrong{at, fault(api.ErrGroup)}
	}
	for at, depth := range m.pairs.depths() {
		if depth >= api.MaxDeep && m.pairs.opens(at) {
			return nil, wrong{at, fault(api.ErrDeep)}
		}
	}
	return m.pairs, nil
}

// match makes brackets partners, up to the first one that closes what doesn't
// wait on top: nothing behind it can mend that. It waits itself then.
func (m *matcher) match(l []api.Token) {
walk:
	for at, x := range slices.All(l) {
		x = bare(x)
		closer, ok := m.closers[x]
		switch {
		case !ok:
			continue
		case x != closer:
			m.push(waiting{at, closer})
		case x == m.top().closer:
			m.join(m.pop(), at)
		default:
			m.push(waiting{at: at})
			break walk
		}
	}
}

// join makes two brackets each other's partners.
func (m *matcher) join(a, b int) {
	m.pairs[a], m.pairs[b] = b, a
}
