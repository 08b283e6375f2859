package buffer_test

import (
	"math"
	"strings"
	"testing"

	"diaeresis/api"
	"diaeresis/buffer"
)

// splice is what is put in the place of n bytes.
type splice struct {
	at, n int
	s     string
}

// of is a new buffer of a text.
func of(t *testing.T, s string) *buffer.Buffer {
	t.Helper()
	b, e := buffer.New(s)
	if e != api.OK || b == nil {
		t.Fatalf("New of %d bytes: %v, %d", len(s), b, e)
	}
	return b
}

// model is a text behind a splice, told without pieces.
func (x splice) model(s string) string {
	return s[:x.at] + x.s + s[x.at+x.n:]
}

// back is the splice that takes another one of a text back.
func (x splice) back(s string) splice {
	return splice{x.at, len(x.s), s[x.at : x.at+x.n]}
}

// check holds a buffer against the text that it should have, and its pieces
// against what is promised of any text.
func check(t *testing.T, b *buffer.Buffer, want string) {
	t.Helper()
	if got := b.Text(); got != want {
		t.Fatalf("Text: %q, not %q", got, want)
	}
	if got := b.Len(); got != len(want) {
		t.Fatalf("Len: %d, not %d", got, len(want))
	}
	if got, e := b.Read(0, len(want)); got != want || e != api.OK {
		t.Fatalf("Read of all: %q, %d, not %q", got, e, want)
	}
	p := b.Pieces()
	if p < 0 || p > len(want) || p == 0 && want != "" {
		t.Fatalf("Pieces: %d, of %d bytes", p, len(want))
	}
}

// do makes a splice that has nothing wrong, and checks what comes of it.
func do(t *testing.T, b *buffer.Buffer, x splice) {
	t.Helper()
	want, p := x.model(b.Text()), b.Pieces()
	if e := b.Splice(x.at, x.n, x.s); e != api.OK {
		t.Fatalf("Splice %v: %d", x, e)
	}
	check(t, b, want)
	if b.Pieces() > p+2 {
		t.Fatalf("Splice %v: %d pieces, of %d", x, b.Pieces(), p)
	}
}

// parted is a buffer of a text that lies in as many pieces as it has bytes.
func parted(t *testing.T, s string) *buffer.Buffer {
	t.Helper()
	b := of(t, "")
	for i := range len(s) {
		do(t, b, splice{i, 0, s[i : i+1]})
	}
	return b
}

// P1.1: what New takes, and what it refuses.
func TestNew(t *testing.T) {
	for _, s := range []string{"", "a", "abcdef", "a\nb\n", "a←⍳3⍝", "\x00\xff\xe2\x86\n", strings.Repeat("x", 3999), strings.Repeat("x", 4000), strings.Repeat("⍴", 1333) + "x"} {
		b := of(t, s)
		check(t, b, s)
		if want := min(len(s), 1); b.Pieces() != want {
			t.Errorf("New of %d bytes: %d pieces, not %d", len(s), b.Pieces(), want)
		}
	}
	for _, s := range []string{strings.Repeat("x", 4001), strings.Repeat("⍴", 1334), strings.Repeat("x", 1<<20)} {
		if b, e := buffer.New(s); b != nil || e != api.ErrFull {
			t.Errorf("New of %d bytes: %v, %d, not ErrFull", len(s), b, e)
		}
	}
}

// P1.1: a nil buffer, at numbers and texts that are right or not.
func TestNil(t *testing.T) {
	var b *buffer.Buffer
	for _, at := range []int{0, 1, -1, math.MinInt, math.MaxInt} {
		for _, n := range []int{0, 1, -1, math.MinInt, math.MaxInt} {
			for _, s := range []string{"", "x", strings.Repeat("x", 4001)} {
				if e := b.Splice(at, n, s); e != api.ErrNil {
					t.Errorf("Splice %d, %d, of nil: %d", at, n, e)
				}
			}
			if s, e := b.Read(at, n); s != "" || e != api.ErrNil {
				t.Errorf("Read %d, %d, of nil: %q, %d", at, n, s, e)
			}
		}
	}
	b.Compact()
	if b.Len() != 0 || b.Text() != "" || b.Pieces() != 0 {
		t.Errorf("nil: %d, %q, %d", b.Len(), b.Text(), b.Pieces())
	}
}

// P1.1: in how many pieces a text lies.
func TestPieces(t *testing.T) {
	b := of(t, "abcdef")
	do(t, b, splice{3, 0, "x"})
	if b.Pieces() != 3 {
		t.Errorf("behind a splice within: %d pieces", b.Pieces())
	}
	do(t, b, splice{0, 7, ""})
	if b.Pieces() != 0 {
		t.Errorf("of an empty text: %d pieces", b.Pieces())
	}
	b.Compact()
	check(t, b, "")
	if b.Pieces() != 0 {
		t.Errorf("of an empty text, behind Compact: %d pieces", b.Pieces())
	}
	b = parted(t, "abc")
	b.Compact()
	check(t, b, "abc")
	if b.Pieces() != 1 {
		t.Errorf("behind Compact: %d pieces", b.Pieces())
	}
	b.Compact()
	check(t, b, "abc")
	if b.Pieces() != 1 {
		t.Errorf("behind two: %d pieces", b.Pieces())
	}
	for range 20 {
		do(t, b, splice{1, 0, ""})
		do(t, b, splice{1, 1, "b"})
	}
	check(t, b, "abc")
}

// P1.1, P1.3: splices of all places and numbers, of a text in one piece and of
// one in as many as there are bytes; each is taken back by another one.
func TestSpliceEverywhere(t *testing.T) {
	const text = "ab\ncd"
	for at := range len(text) + 1 {
		for n := range len(text) - at + 1 {
			for _, s := range []string{"", "x", "\n", "xyz", "⍴⍳"} {
				for _, b := range []*buffer.Buffer{of(t, text), parted(t, text)} {
					x := splice{at, n, s}
					do(t, b, x)
					if got, e := b.Read(at, len(s)); got != s || e != api.OK {
						t.Fatalf("Read behind %v: %q, %d", x, got, e)
					}
					do(t, b, x.back(text))
					check(t, b, text)
				}
			}
		}
	}
}

// P1.2: splices that are refused, and those that are just not.
func TestSpliceRefused(t *testing.T) {
	fits, over := strings.Repeat("x", 3994), strings.Repeat("x", 3995)
	for _, x := range []struct {
		splice
		e api.Errno
	}{
		{splice{0, 0, ""}, api.OK},
		{splice{6, 0, ""}, api.OK},
		{splice{0, 6, "abcdef"}, api.OK},
		{splice{-1, 0, ""}, api.ErrRange},
		{splice{-1, 1, "x"}, api.ErrRange},
		{splice{7, 0, ""}, api.ErrRange},
		{splice{7, -1, ""}, api.ErrRange},
		{splice{0, -1, ""}, api.ErrRange},
		{splice{6, -1, ""}, api.ErrRange},
		{splice{0, 7, ""}, api.ErrRange},
		{splice{5, 2, ""}, api.ErrRange},
		{splice{6, 1, ""}, api.ErrRange},
		{splice{math.MaxInt, 0, ""}, api.ErrRange},
		{splice{math.MinInt, 0, ""}, api.ErrRange},
		{splice{math.MinInt, math.MinInt, ""}, api.ErrRange},
		{splice{1, math.MaxInt, ""}, api.ErrRange},
		{splice{math.MaxInt, math.MaxInt, ""}, api.ErrRange},
		{splice{0, math.MinInt, ""}, api.ErrRange},
		{splice{3, 0, over}, api.ErrFull},
		{splice{0, 5, over + "abcde"}, api.ErrFull},
		{splice{6, 0, over}, api.ErrFull},
		{splice{0, 6, strings.Repeat("x", 4001)}, api.ErrFull},
		{splice{-1, 0, over}, api.ErrRange},
		{splice{0, 7, over}, api.ErrRange},
	} {
		for _, b := range []*buffer.Buffer{of(t, "abcdef"), parted(t, "abcdef")} {
			p := b.Pieces()
			if e := b.Splice(x.at, x.n, x.s); e != x.e {
				t.Errorf("Splice %d, %d, of %d bytes: %d, not %d", x.at, x.n, len(x.s), e, x.e)
			}
			check(t, b, "abcdef")
			if x.e != api.OK && b.Pieces() != p {
				t.Errorf("Splice %d, %d, refused: %d pieces, of %d", x.at, x.n, b.Pieces(), p)
			}
		}
	}
	for _, x := range []splice{{0, 0, fits}, {3, 0, fits}, {6, 0, fits}, {1, 5, fits + "bcdef"}, {0, 6, strings.Repeat("x", 4000)}} {
		b := of(t, "abcdef")
		do(t, b, x)
		if e := b.Splice(4000, 0, "x"); b.Len() != 4000 || e != api.ErrFull {
			t.Errorf("one more than 4000 bytes: %d, %d", b.Len(), e)
		}
		do(t, b, splice{3999, 1, "y"})
		do(t, b, x.back("abcdef"))
	}
}

// P1.2: what is read, and what is refused; reading changes nothing.
func TestRead(t *testing.T) {
	const text = "abcdef"
	for _, b := range []*buffer.Buffer{of(t, text), parted(t, text), of(t, "")} {
		text, p := b.Text(), b.Pieces()
		for at := -2; at < len(text)+3; at++ {
			for n := -2; n < len(text)+3; n++ {
				want, e := "", api.ErrRange
				if at >= 0 && n >= 0 && at+n <= len(text) {
					want, e = text[at:at+n], api.OK
				}
				if got, f := b.Read(at, n); got != want || f != e {
					t.Errorf("Read %d, %d: %q, %d, not %q, %d", at, n, got, f, want, e)
				}
			}
		}
		for _, x := range [][2]int{{0, math.MaxInt}, {1, math.MaxInt}, {math.MaxInt, 1}, {math.MaxInt, math.MaxInt}, {math.MinInt, 0}, {0, math.MinInt}, {math.MinInt, math.MinInt}, {math.MinInt, math.MaxInt}, {len(text), math.MaxInt}} {
			if got, e := b.Read(x[0], x[1]); got != "" || e != api.ErrRange {
				t.Errorf("Read %v: %q, %d", x, got, e)
			}
		}
		check(t, b, text)
		if b.Pieces() != p {
			t.Errorf("behind Read: %d pieces, of %d", b.Pieces(), p)
		}
	}
}

// P1.2: Compact changes nothing that is read, nor what splices do then.
func TestCompact(t *testing.T) {
	b := of(t, "a←1 ⋄ b")
	for i, x := range []splice{{0, 1, "xyz"}, {3, 0, "\n"}, {5, 2, ""}, {0, 0, "⍳"}, {2, 3, "q"}} {
		do(t, b, x)
		text := b.Text()
		if i%2 == 0 {
			b.Compact()
			if b.Pieces() != 1 {
				t.Errorf("behind Compact: %d pieces", b.Pieces())
			}
		}
		check(t, b, text)
		for at := range len(text) + 1 {
			for n := range len(text) - at + 1 {
				if got, e := b.Read(at, n); got != text[at:at+n] || e != api.OK {
					t.Errorf("Read %d, %d, behind Compact: %q, %d", at, n, got, e)
				}
			}
		}
	}
}

// P1.1 to P1.3: many splices of any kind, held against the model, and all of
// them taken back.
func TestManySplices(t *testing.T) {
	state := uint32(1)
	below := func(n int) int {
		state = state*1664525 + 1013904223
		return int(state>>8) % n
	}
	for round := range 20 {
		text := strings.Repeat("abc⍴\n", below(300))
		b := of(t, text)
		var backs []splice
		for i := range 200 {
			now := b.Text()
			at := below(len(now) + 1)
			n := below(min(len(now)-at, 40) + 1)
			s := strings.Repeat(string(rune('A'+i%26)), below(min(4000-len(now)+n, 40)+1))
			x := splice{at, n, s}
			backs = append(backs, x.back(now))
			do(t, b, x)
			if below(30) == 0 {
				b.Compact()
			}
		}
		for i := range backs {
			do(t, b, backs[len(backs)-1-i])
		}
		if b.Text() != text {
			t.Errorf("round %d: not taken back", round)
		}
	}
}

// P1.1: a text of 4000 pieces, of a byte each, is gone through as any other.
func TestMostPieces(t *testing.T) {
	b := of(t, "")
	for i := range 4000 {
		if e := b.Splice(i/2, 0, string(rune('a'+i%26))); e != api.OK {
			t.Fatalf("splice %d: %d", i, e)
		}
		if b.Pieces() > b.Len() {
			t.Fatalf("splice %d: %d pieces, of %d bytes", i, b.Pieces(), b.Len())
		}
	}
	if e := b.Splice(2000, 0, "x"); e != api.ErrFull {
		t.Errorf("byte 4001: %d", e)
	}
	text := b.Text()
	b.Compact()
	check(t, b, text)
	if b.Pieces() != 1 {
		t.Errorf("behind Compact: %d pieces", b.Pieces())
	}
}

// R4: what a buffer answers hangs on its own splices alone.
func TestTwoBuffers(t *testing.T) {
	a, b := of(t, "abcdef"), of(t, "abcdef")
	was := a.Text()
	do(t, a, splice{2, 3, "xy"})
	check(t, a, "abxyf")
	check(t, b, "abcdef")
	do(t, b, splice{0, 6, a.Text()})
	do(t, a, splice{0, 5, ""})
	check(t, b, "abxyf")
	if was != "abcdef" {
		t.Errorf("what was answered has changed: %q", was)
	}
}
