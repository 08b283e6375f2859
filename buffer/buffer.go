// Package buffer is layer 1: see shared/doc/01-buffer.md.
package buffer

import (
	"errors"

	"diaeresis/api"
)

var (
	errNil   = errors.New("buffer: there is no buffer")
	errRange = errors.New("buffer: there are no such bytes")
	errFull  = errors.New("buffer: there would be too many bytes")
)

// Buffer is text that is changed: an editor of the pieces in which it lies.
type Buffer struct {
	pieces
}

// New is one of a text.
func New(s string) (*Buffer, api.Errno) {
	if err := room(0, s); err != nil {
		return nil, number(err)
	}
	return &Buffer{pieces{join(nil, own(s))}}, api.OK
}

// Splice puts bytes in the place of others.
func (b *Buffer) Splice(at int, n int, s string) api.Errno {
	if err := b.span(at, n); err != nil {
		return number(err)
	}
	if err := room(b.size()-n, s); err != nil {
		return number(err)
	}
	b.splice(at, n, s)
	return api.OK
}

// Read is the n bytes from a place on.
func (b *Buffer) Read(at int, n int) (string, api.Errno) {
	if err := b.span(at, n); err != nil {
		return "", number(err)
	}
	return b.read(at, n), api.OK
}

// Len is how many bytes there are.
func (b *Buffer) Len() int {
	if b == nil {
		return 0
	}
	return b.size()
}

// Text is all the bytes.
func (b *Buffer) Text() string {
	if b == nil {
		return ""
	}
	return b.read(0, b.size())
}

// Pieces is in how many pieces the bytes lie.
func (b *Buffer) Pieces() int {
	if b == nil {
		return 0
	}
	return len(b.list)
}

// Compact makes the pieces one.
func (b *Buffer) Compact() {
	if b == nil {
		return
	}
	b.compact()
}

// span tells what is wrong with the n bytes from a place on. It takes n from
// what is behind that place, as their sum may wrap round.
func (b *Buffer) span(at, n int) error {
	if b == nil {
		return errNil
	}
	if at < 0 || at > b.size() || n < 0 || n > b.size()-at {
		return errRange
	}
	return nil
}

// room tells what is wrong with a text that comes to bytes that stay.
func room(stay int, s string) error {
	if len(s) > api.MaxText-stay {
		return errFull
	}
	return nil
}

// number is what callers are told of what is wrong.
func number(err error) api.Errno {
	switch {
	case errors.Is(err, errNil):
		return api.ErrNil
	case errors.Is(err, errRange):
		return api.ErrRange
	case errors.Is(err, errFull):
		return api.ErrFull
	}
	return api.OK
}
