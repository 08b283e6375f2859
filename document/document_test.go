package document_test

import (
	"math"
	"slices"
	"strings"
	"testing"
	"unsafe"

	"diaeresis/api"
	"diaeresis/document"
	"diaeresis/lex"
	"diaeresis/node"
)

// told is a statement, written out: its line, its tokens, its tree, what is wrong.
type told struct {
	line   int
	tokens string
	show   string
	e      api.Errno
}

// tells holds a document's statements against some that are written out.
func tells(t *testing.T, d *document.Document, want ...told) {
	t.Helper()
	var got []told
	for _, s := range d.Stmts() {
		got = append(got, told{s.Line, lex.Text(s.L), node.Show(s.T), s.E})
		if s.E != api.OK && len(s.T) != 0 {
			t.Errorf("%v has a tree beside an error", s)
		}
	}
	if !slices.Equal(got, want) {
		t.Errorf("Stmts of %q: %v, not %v", d.Text(), got, want)
	}
}

// P9.1: what New takes, and what it refuses.
func TestNew(t *testing.T) {
	for _, s := range []string{
		"", "a", "\n", "a\n", "\n\na", "f←+⋄f 1", "\r\n", "\xff\n\xe2\x86\n\x90", "'a\nb'", "⍝\n`b\n`",
		strings.Repeat("x", 4000), strings.Repeat("\n", 4000), strings.Repeat("x\n", 2000), strings.Repeat("⋄", 1333) + "x", strings.Repeat("f←+\n", 666),
	} {
		d, m := of(t, s)
		check(t, d, m)
	}
	for _, s := range []string{strings.Repeat("x", 4001), strings.Repeat("\n", 4001), strings.Repeat("⋄", 1334), strings.Repeat("x\n", 1<<19)} {
		if d, e := document.New(s); d != nil || e != api.ErrFull {
			t.Errorf("New of %d bytes: %v, %d, not ErrFull", len(s), d, e)
		}
	}
}

// P9.1: statements, written out, the document's examples among them.
func TestStmts(t *testing.T) {
	for s, want := range map[string][]told{
		"":                nil,
		" \t":             nil,
		"\n\n":            nil,
		"⍝ a⋄b":           nil,
		" `b⋄\n ":         nil,
		"f←+⋄f 1":         {{0, "f←+", "(8:f 9:+)", 0}, {0, "f1", "(6: 14:f 1:1)", 0}},
		"f←+\nf 1":        {{0, "f←+", "(8:f 9:+)", 0}, {1, "f1", "(6: 14:f 1:1)", 0}},
		"f 1⋄f←+":         {{0, "f1", "", api.ErrSyntax}, {0, "f←+", "(8:f 9:+)", 0}},
		"⋄":               {{0, "", "", api.ErrSyntax}, {0, "", "", api.ErrSyntax}},
		"\n⋄⍝⋄":           {{1, "", "", api.ErrSyntax}, {1, "", "", api.ErrSyntax}},
		"1⋄ ⋄2":           {{0, "1", "1:1", 0}, {0, "", "", api.ErrSyntax}, {0, "2", "1:2", 0}},
		"1`z2":            {{0, "1", "1:1", 0}, {0, "2", "1:2", 0}},
		"\n\n 1 ⍝ 2\n3":   {{2, "1", "1:1", 0}, {3, "3", "1:3", 0}},
		"{1⋄2}3⋄(4)":      {{0, "{1⋄2}3", "(6: (11: 1:1 1:2) 1:3)", 0}, {0, "(4)", "(5: 1:4)", 0}},
		"(1⋄2":            {{0, "(1⋄2", "", api.ErrGroup}},
		"1⋄2)\n3":         {{0, "1⋄2)", "", api.ErrGroup}, {1, "3", "1:3", 0}},
		"(1\n)":           {{0, "(1", "", api.ErrGroup}, {1, ")", "", api.ErrGroup}},
		"(1}":             {{0, "(1}", "", api.ErrGroup}},
		"(⋄)":             {{0, "(⋄)", "", api.ErrSyntax}},
		"#":               {{0, "#", "", api.ErrTokens}},
		"1⋄#(":            {{0, "1⋄#(", "", api.ErrTokens}},
		"1⋄#⋄2":           {{0, "1", "1:1", 0}, {0, "#", "", api.ErrTokens}, {0, "2", "1:2", 0}},
		"'a⋄b'⋄'c⋄d":      {{0, "'a⋄b'", "2:'a%e2%8b%84b'", 0}, {0, "'c⋄d", "", api.ErrTokens}},
		"'a\nb'":          {{0, "'a", "", api.ErrTokens}, {1, "b'", "", api.ErrTokens}},
		"1\r":             {{0, "1\r", "", api.ErrTokens}},
		"⍵⋄1:2":           {{0, "⍵", "", api.ErrSyntax}, {0, "1:2", "", api.ErrSyntax}},
		"a←⍳3⋄b←a f 1":    {{0, "a←⍳3", "(8:a (6: 9:%e2%8d%b3 1:3))", 0}, {0, "b←af1", "", api.ErrSyntax}},
		"f←+\nf←1\nf":     {{0, "f←+", "(8:f 9:+)", 0}, {1, "f←1", "(8:f 1:1)", 0}, {2, "f", "3:f", 0}},
		"f←+⋄f←f f⋄f 1":   {{0, "f←+", "(8:f 9:+)", 0}, {0, "f←ff", "", api.ErrSyntax}, {0, "f1", "(6: 14:f 1:1)", 0}},
		"f←(+/)\nf 1":     {{0, "f←(+/)", "(8:f (5: (10:/ 9:+)))", 0}, {1, "f1", "(6: 14:f 1:1)", 0}},
		"{f←+⋄f 1}2⋄f":    {{0, "{f←+⋄f1}2", "(6: (11: (8:f 9:+) (6: 14:f 1:1)) 1:2)", 0}, {0, "f", "3:f", 0}},
		"f←+⋄{f←1⋄f}f 2":  {{0, "f←+", "(8:f 9:+)", 0}, {0, "{f←1⋄f}f2", "(6: (11: (8:f 1:1) 3:f) (6: 14:f 1:2))", 0}},
		"(f←+\nf":         {{0, "(f←+", "", api.ErrGroup}, {1, "f", "3:f", 0}},
		"f←+ #\nf":        {{0, "f←+#", "", api.ErrTokens}, {1, "f", "3:f", 0}},
		"'f←+'\nf ⍝ f←-":  {{0, "'f←+'", "2:'f%e2%86%90+'", 0}, {1, "f", "3:f", 0}},
		"g←f⋄f←+⋄h←f⋄g":   {{0, "g←f", "(8:g 3:f)", 0}, {0, "f←+", "(8:f 9:+)", 0}, {0, "h←f", "(8:h 14:f)", 0}, {0, "g", "3:g", 0}},
		"f`s+`bx\n`r f`e": {{0, "f`s+", "(8:f 9:+)", 0}, {1, "`rf`e", "", api.ErrSyntax}},
	} {
		d, m := of(t, s)
		tells(t, d, want...)
		check(t, d, m)
	}
}

// P9.1: lines and statements just at the limits, and just past them.
func TestLimits(t *testing.T) {
	open, closing := strings.Repeat("(", 20), strings.Repeat(")", 20)
	d, _ := of(t, "1⋄"+open+"2"+closing)
	if l := d.Stmts(); len(l) != 2 || l[1].E != api.OK {
		t.Errorf("20 deep: %v", l)
	}
	d, _ = of(t, "1⋄("+open+"2"+closing+")⋄3\n4")
	if l := d.Stmts(); len(l) != 2 || l[0].E != api.ErrDeep || len(l[0].L) != 47 || l[1].Line != 1 {
		t.Errorf("21 deep: %v", l)
	}
	d, _ = of(t, "#("+open+"2"+closing+")")
	if l := d.Stmts(); len(l) != 1 || l[0].E != api.ErrTokens {
		t.Errorf("21 deep, with another token: %v", l)
	}
	hundred := strings.Repeat("1 ", 100)
	d, _ = of(t, hundred+"⋄"+hundred+"1⋄a←"+strings.Repeat("+", 97)+"1⋄"+strings.Repeat("+", 101))
	var e []api.Errno
	for _, s := range d.Stmts() {
		e = append(e, s.E)
	}
	if want := []api.Errno{0, api.ErrNode, 0, api.ErrNode}; !slices.Equal(e, want) {
		t.Errorf("100 tokens and 101: %v", e)
	}
	name := strings.Repeat("n", 20)
	d, _ = of(t, name+"←+\n"+name+" 1\n"+name+"n←-")
	if l := d.Stmts(); len(l) != 3 || l[1].E != api.OK || l[2].E != api.ErrTokens || len(d.Env()) != 1 {
		t.Errorf("names of 20 bytes and 21: %v", l)
	}
}

// P9.1: the names that statements make, in order, all of them.
func TestEnv(t *testing.T) {
	for s, want := range map[string][]api.Bound{
		"":                             nil,
		"a⋄f 1":                        nil,
		"a←1":                          {{Name: "a"}},
		"f←+\nf 1\n\n⍝ x\na←f 2":       {{Name: "f", Fn: true}, {Name: "a"}},
		"f←+⋄f←1⋄f←f⋄f←-":              {{Name: "f", Fn: true}, {Name: "f"}, {Name: "f"}, {Name: "f", Fn: true}},
		"b←a\na←+\nb←a":                {{Name: "b"}, {Name: "a", Fn: true}, {Name: "b", Fn: true}},
		"f←{a←1⋄b←+⋄a}":                {{Name: "f", Fn: true}},
		"f←((+))⋄g←((1))⋄h←+/¨":        {{Name: "f", Fn: true}, {Name: "g"}, {Name: "h", Fn: true}},
		"a←\nb←)\nc←#\nd←+ +\ne←1 'x'": nil,
		"(a←1)⋄1+a←1⋄a←b←1⋄'a←1'":       nil,
		"z←1⋄a←2\n\nz←3":                {{Name: "z"}, {Name: "a"}, {Name: "z"}},
		"f←+\ng←f/\nh←g\ni←h 1\nj←{h}i": {{Name: "f", Fn: true}, {Name: "g", Fn: true}, {Name: "h", Fn: true}, {Name: "i"}},
	} {
		d, m := of(t, s)
		if got := d.Env(); !slices.Equal(got, want) {
			t.Errorf("Env of %q: %v, not %v", s, got, want)
		}
		check(t, d, m)
	}
}

// marked is a text without its marks « and », and what is put in the place of
// what they mark.
func marked(s, put string) (string, splice) {
	head, rest, _ := strings.Cut(s, "«")
	old, tail, _ := strings.Cut(rest, "»")
	return head + old + tail, splice{len(head), len(old), put}
}

// P9.2: how many statements are parsed, written out: those of the lines that are
// lexed again, and those of lines in which a name stands that is bound otherwise
// ahead of them, all of such a line; not those of others.
func TestParsed(t *testing.T) {
	for _, y := range []struct {
		text, put string
		more      int
	}{
		{"«»", "", 0},
		{"«»", "a⋄b\nc", 3},
		{"«»a⋄b\nc", "", 2},
		{"«a»⋄b\nc", "a", 2},
		{"a«⋄b\nc»", "", 1},
		{"«a⋄b\nc»", "", 0},
		{"a⋄b«\n»c", "", 2},
		{"a⋄b«\n»c", "\n", 3},
		{"a\n«»b\nc", "\n", 1},
		{"a\nb« ⍝ c»", "", 1},
		{"«»⋄\n(\n#", "⋄", 3},
		{"«⋄\n»(\n#", "⋄", 1},
		// From a function's to another function's, a value's, or nobody's.
		{"f←«+»\nf 1", "-", 1},
		{"f←«+»\nf 1", "1", 2},
		{"«f←+\n»f 1", "", 1},
		{"«f←+»\nf 1", "", 1},
		{"«f»←+\nf 1", "g", 2},
		{"«f»←+\nf 1", "ff", 2},
		// From a value's to a value's, or nobody's, and back.
		{"f←«1»\nf+1", "2", 1},
		{"«f←1\n»f+1", "", 1},
		{"«f←1»\nf+1", "", 0},
		{"«»1\nf+1", "f←", 1},
		{"«1»\nf+1", "f←+", 2},
		// What is wrong makes no name.
		{"f←+«»\nf 1", ")", 2},
		{"f←+«»\nf 1", "#", 2},
		{"f←«#»\nf 1", "+", 2},
		{"f←«#»\nf 1", "1", 1},
		// All of a line in which the name stands, even where it makes it itself,
		// or is wrong, and each line once.
		{"f←«+»\n1⋄f 1⋄2⋄f 2", "1", 5},
		{"f←«+»\nf←1⋄f", "1", 3},
		{"f←«+»\n(f⋄f", "1", 2},
		{"f←«+»\nf#⋄1", "1", 3},
		{"f←«+»\n{{f}⍵}1", "1", 2},
		{"f←«+»\n{f←1⋄f}1", "1", 2},
		{"f←«+»\nf 1\nf 2\ng\nf", "1", 4},
		// Where it stands in no name: in a text, a remark, a longer name.
		{"f←«+»\n'f'\n1 ⍝ f\nff\n_f f1", "1", 1},
		// The last one ahead counts; what is ahead of the change is as it was.
		{"f←«+»\nf←+\nf 1", "1", 2},
		{"f←«+»\nf←1\nf", "1", 2},
		{"f←«1»⋄f←+\nf 1", "+", 2},
		{"«f←1⋄»f←+\nf 1", "", 1},
		{"f←1⋄«f←+»\nf 1", "f←1", 3},
		{"f←1⋄«f←+»\nf 1", "", 3},
		{"f 1\nf←«+»\nf 1", "1", 2},
		{"f 1\n«»\nf 1", "f←+", 2},
		{"«f 1\n\nf 1»", "f 1\n\nf 1", 2},
		// What a line makes hangs on what is ahead of it.
		{"f←«+»\ng←f\nh←g\nh 1\n1", "1", 4},
		{"f←«+»\ng←f\nf←+\nh←f\nh 1\ng 1", "1", 4},
		{"f←«+»\ng←f 1\ng+1", "1", 2},
		{"f←«+»\ng←{f ⍵}\ng 1", "1", 3},
		{"f←«+»\ng←{f}\ng 1", "1", 3},
		// Lines that stand elsewhere now.
		{"«»f←+\nf 1", "\n\n\n", 1},
		{"f←+\n«\n\n»f 1", "", 1},
		{"f←+«»\nf 1\na", "\nf←1\n", 3},
		{"«f 1»\nf←+", "f←+\nf 1", 3},
	} {
		text, s := marked(y.text, y.put)
		d, m := of(t, text)
		if got := d.Parsed(); got != m.parsed {
			t.Errorf("Parsed of %q: %d, not %d", text, got, m.parsed)
		}
		was := m.parsed
		m = do(t, d, m, s)
		if got := d.Parsed() - was; got != y.more {
			t.Errorf("%q for what is marked in %q: %d more, not %d", y.put, y.text, got, y.more)
		}
		// What was parsed has its names from now on: a splice that changes nothing
		// counts its own line alone.
		was = d.Parsed()
		do(t, d, m, splice{len(m.text), 0, ""})
		if want := len(partsOf(m.text[strings.LastIndex(m.text, "\n")+1:])); d.Parsed()-was != want {
			t.Errorf("behind %q for what is marked in %q: %d more, not %d", y.put, y.text, d.Parsed()-was, want)
		}
	}
}

// P9.1: a nil document, at numbers and texts that are right or not.
func TestNil(t *testing.T) {
	var d *document.Document
	for _, at := range []int{0, 1, -1, math.MinInt, math.MaxInt} {
		for _, n := range []int{0, 1, -1, math.MinInt, math.MaxInt} {
			for _, s := range []string{"", "x", "\n", strings.Repeat("x", 4001)} {
				if c, e := d.Splice(at, n, s); c != (api.Change{}) || e != api.ErrNil {
					t.Errorf("Splice %d, %d, of nil: %v, %d", at, n, c, e)
				}
			}
		}
	}
	if len(d.Stmts()) != 0 || len(d.Env()) != 0 || d.Parsed() != 0 || d.Text() != "" {
		t.Errorf("nil: %v, %v, %d, %q", d.Stmts(), d.Env(), d.Parsed(), d.Text())
	}
}

// R1: a document that no call gave panics at none.
func TestNoCallGave(t *testing.T) {
	for _, s := range []splice{{0, 0, ""}, {0, 0, "a\n"}, {-1, 1, ""}, {0, 1, "x"}} {
		d := &document.Document{}
		d.Splice(s.at, s.n, s.s)
		d.Stmts()
		d.Env()
		d.Text()
		d.Parsed()
	}
}

// P9.1: Same goes by each field of each statement.
func TestSame(t *testing.T) {
	one := func() []api.Stmt {
		d, _ := of(t, "f←+\n f(1)⋄#")
		return d.Stmts()
	}
	if !document.Same(one(), one()) || !document.Same(nil, nil) || !document.Same(nil, []api.Stmt{}) || !document.Same([]api.Stmt{{}}, []api.Stmt{{}}) {
		t.Error("the same are not")
	}
	empty := []api.Stmt{{L: []api.Token{}, T: []api.Node{}}, {T: []api.Node{{Kids: []int{}}}}}
	if !document.Same(empty, []api.Stmt{{}, {T: []api.Node{{}}}}) {
		t.Error("nil and empty lists are not the same")
	}
	for i, change := range []func(l []api.Stmt) []api.Stmt{
		func(l []api.Stmt) []api.Stmt { return nil },
		func(l []api.Stmt) []api.Stmt { return l[:2] },
		func(l []api.Stmt) []api.Stmt { return l[1:] },
		func(l []api.Stmt) []api.Stmt { return append(l, api.Stmt{}) },
		func(l []api.Stmt) []api.Stmt { return []api.Stmt{l[1], l[0], l[2]} },
		func(l []api.Stmt) []api.Stmt { l[0].Line = 7; return l },
		func(l []api.Stmt) []api.Stmt { l[2].E = api.ErrSyntax; return l },
		func(l []api.Stmt) []api.Stmt { l[0].E = api.ErrSyntax; return l },
		func(l []api.Stmt) []api.Stmt { l[1].L = nil; return l },
		func(l []api.Stmt) []api.Stmt { l[1].L = l[1].L[:3]; return l },
		func(l []api.Stmt) []api.Stmt { l[1].L[0].Kind = api.TokFn; return l },
		func(l []api.Stmt) []api.Stmt { l[1].L[0].Text = "g"; return l },
		func(l []api.Stmt) []api.Stmt { l[1].L[1].Glyph = "{"; return l },
		func(l []api.Stmt) []api.Stmt { l[1].T = nil; return l },
		func(l []api.Stmt) []api.Stmt { l[1].T = l[1].T[:3]; return l },
		func(l []api.Stmt) []api.Stmt { l[1].T[0].Kind = api.NodeName; return l },
		func(l []api.Stmt) []api.Stmt { l[1].T[0].Text = "g"; return l },
		func(l []api.Stmt) []api.Stmt { l[1].T[2].Kids[0] = 0; return l },
		func(l []api.Stmt) []api.Stmt { l[1].T[3].Kids = l[1].T[3].Kids[:1]; return l },
	} {
		if document.Same(one(), change(one())) || document.Same(change(one()), one()) {
			t.Errorf("change %d: others are the same", i)
		}
	}
}

// P9.3: the statements' tokens are the text, but for blanks, remarks, line ends,
// and the `⋄` between.
func TestTokensAreText(t *testing.T) {
	d := &dice{21}
	for range 300 {
		x, m := of(t, d.text(20))
		lines := make([]string, strings.Count(m.text, "\n")+1)
		for i, s := range x.Stmts() {
			if i > 0 && x.Stmts()[i-1].Line == s.Line {
				lines[s.Line] += "⋄"
			}
			lines[s.Line] += lex.Text(s.L)
		}
		for i, l := range strings.Split(m.text, "\n") {
			if want := lex.Text(lex.Plain(lex.Line(l))); strings.ReplaceAll(lines[i], "`z", "⋄") != strings.ReplaceAll(want, "`z", "⋄") {
				t.Fatalf("line %d of %q: %q, not %q", i, m.text, lines[i], want)
			}
		}
	}
}

// spoil writes over all of an answer, and over its spare room.
func spoil(l []api.Stmt, env []api.Bound) {
	for _, s := range l {
		for _, x := range s.T {
			for i := range x.Kids[:cap(x.Kids)] {
				x.Kids[:cap(x.Kids)][i] = 77
			}
		}
		clear(s.T[:cap(s.T)])
		clear(s.L[:cap(s.L)])
	}
	clear(l[:cap(l)])
	clear(env[:cap(env)])
}

// R3: what is answered is new memory: who writes into it changes nothing that is
// kept, nor another answer, nor another list of the same one.
func TestNewMemory(t *testing.T) {
	d, m := of(t, "f←{⍺ g ⍵⋄1}⋄a←1 2 3\nf 1\na f a⋄f←2\nf")
	kept, env := d.Stmts(), d.Env()
	want, _, wantEnv := whole(m.text)
	for _, s := range []splice{{0, 0, "\n"}, {3, 0, " "}, {0, 3, "g"}, {0, 1, "h\nf"}} {
		m = do(t, d, m, s)
		spoil(d.Stmts(), d.Env())
		check(t, d, m)
	}
	if !equal(kept, want) || !slices.Equal(env, wantEnv) {
		t.Errorf("answers from before the splices: %v, %v", kept, env)
	}
	for i := range kept {
		for k := range kept[i].T {
			_ = append(kept[i].T[k].Kids, 99, 99, 99)
		}
		_ = append(kept[i].L, api.Token{Kind: 99}, api.Token{Kind: 99})
		_ = append(kept[i].T, api.Node{Kind: 99}, api.Node{Kind: 99})
	}
	if !equal(kept, want) {
		t.Errorf("behind appends: %v", kept)
	}
}

// R3: the bytes of answers are their own, too.
func TestNewBytes(t *testing.T) {
	text := strings.Repeat("long", 5) + "←'" + strings.Repeat("x", 20) + "'"
	d, _ := of(t, text)
	from := map[*byte]bool{}
	for range 2 {
		l, env := d.Stmts(), d.Env()
		for _, s := range []string{l[0].L[0].Text, l[0].L[1].Text, l[0].L[1].Glyph, l[0].L[2].Text, l[0].T[0].Text, l[0].T[1].Text, env[0].Name} {
			p := unsafe.StringData(s)
			if from[p] {
				t.Errorf("%q shares bytes with another one", s)
			}
			from[p] = true
		}
	}
}

// R3: what is handed in is not kept: its bytes may be other ones later.
func TestHandedIn(t *testing.T) {
	text, put := []byte("f←{⍵ g 1}⋄x\nf a ⍝ b\n(1"), []byte("a←'x'\nb")
	d, m := of(t, strings.Clone(unsafe.String(&text[0], len(text))))
	x, e := document.New(unsafe.String(&text[0], len(text)))
	clear(text)
	if e != api.OK {
		t.Fatal(e)
	}
	check(t, x, m)
	m = do(t, d, m, splice{0, 0, string(put)})
	if _, e := x.Splice(0, 0, unsafe.String(&put[0], len(put))); e != api.OK {
		t.Fatal(e)
	}
	clear(put)
	check(t, x, m)
}

// R4: a document hangs on no other one.
func TestTwoDocuments(t *testing.T) {
	x, m := of(t, "f←+\nf 1\ng")
	y, n := of(t, "f←+\nf 1\ng")
	for i := range 5 {
		m = do(t, x, m, splice{i * 2, 0, "g←f\n"})
		check(t, y, n)
	}
	n = do(t, y, n, splice{4, 1, "1"})
	check(t, x, m)
	check(t, y, n)
}
