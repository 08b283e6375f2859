package parse_test

import (
	"math"
	"slices"
	"strings"
	"testing"
	"unsafe"

	"diaeresis/api"
	"diaeresis/lex"
	"diaeresis/node"
	"diaeresis/parse"
)

// of are a line's tokens without blanks and remarks.
func of(s string) []api.Token { return lex.Plain(lex.Line(s)) }

// some are names that are bound: f and g as functions', a and b as values'.
func some() []api.Bound {
	return []api.Bound{{Name: "f"}, {Name: "g", Fn: true}, {Name: "a", Fn: true}, {Name: "f", Fn: true}, {Name: "a"}, {Name: "b"}}
}

// shows holds the show of a call's tree against one that is written out; of none
// the error is ErrSyntax.
func shows(t *testing.T, c call, s string, inner bool, want string) {
	t.Helper()
	l, e := c.does(of(s), some(), inner)
	wrong := api.OK
	if want == "" {
		wrong = api.ErrSyntax
	}
	if got := node.Show(l); got != want || e != wrong || want == "" && len(l) != 0 {
		t.Errorf("%s of %s, %v: %s, %d, not %s", c.name, s, inner, got, e, want)
	}
	check(t, of(s), some(), inner)
}

// P8.2: statements, written out, the document's examples among them.
func TestStatement(t *testing.T) {
	for s, want := range map[string]string{
		"+/1 2":              "(6: (10:/ 9:+) 1:1%202)",
		"007":                "1:7",
		"`h1 00 ¯2":          "1:%c2%af1%200%20%c2%af2",
		"1 2 ⍝ 3":            "1:1%202",
		"'it''s'":            "2:'it''s'",
		"''":                 "2:''",
		"a":                  "3:a",
		"unknown":            "3:unknown",
		"a+b":                "(7: 3:a 9:+ 3:b)",
		"1-2-3":              "(7: 1:1 9:- (7: 1:2 9:- 1:3))",
		"(1-2)-3":            "(7: (5: (7: 1:1 9:- 1:2)) 9:- 1:3)",
		"-1-2":               "(6: 9:- (7: 1:1 9:- 1:2))",
		"1- -2":              "(7: 1:1 9:- (6: 9:- 1:2))",
		"f g 1":              "(6: 14:f (6: 14:g 1:1))",
		"a f g b":            "(7: 3:a 14:f (6: 14:g 3:b))",
		"a f b g 1":          "(7: 3:a 14:f (7: 3:b 14:g 1:1))",
		"a+/¨b":              "(7: 3:a (10:%c2%a8 (10:/ 9:+)) 3:b)",
		"+//1":               "(6: (10:/ (10:/ 9:+)) 1:1)",
		"(f)1":               "(6: (5: 14:f) 1:1)",
		"a(f)b":              "(7: 3:a (5: 14:f) 3:b)",
		"(a)f(b)":            "(7: (5: 3:a) 14:f (5: 3:b))",
		"(+)/1":              "(6: (10:/ (5: 9:+)) 1:1)",
		"((1))":              "(5: (5: 1:1))",
		"{1}/a":              "(6: (10:/ (11: 1:1)) 3:a)",
		"a{⍺+⍵}b":            "(7: 3:a (11: (7: 4:%e2%8d%ba 9:+ 4:%e2%8d%b5)) 3:b)",
		"`r1":                "(6: 9:%e2%8d%b4 1:1)",
		"z←1":                "(8:z 1:1)",
		"z←a":                "(8:z 3:a)",
		"z←+":                "(8:z 9:+)",
		"z←f":                "(8:z 14:f)",
		"z←+/":               "(8:z (10:/ 9:+))",
		"z←{⍵}":              "(8:z (11: 4:%e2%8d%b5))",
		"z←((f))":            "(8:z (5: (5: 14:f)))",
		"z←(1)":              "(8:z (5: 1:1))",
		"z←f 1":              "(8:z (6: 14:f 1:1))",
		"f←f":                "(8:f 14:f)",
		"f←1":                "(8:f 1:1)",
		"a`sf":               "(8:a 14:f)",
		"{⍵:1⋄⍺:2⋄3}0":       "(6: (11: (12: 4:%e2%8d%b5 1:1) (12: 4:%e2%8d%ba 1:2) 1:3) 1:0)",
		"{(⍵)f{⍺}⍵}1":        "(6: (11: (7: (5: 4:%e2%8d%b5) 14:f (6: (11: 4:%e2%8d%ba) 4:%e2%8d%b5))) 1:1)",
		"{-⍵:{⍵:1⋄2}3⋄4}'x'": "(6: (11: (12: (6: 9:- 4:%e2%8d%b5) (6: (11: (12: 4:%e2%8d%b5 1:1) 1:2) 1:3)) 1:4) 2:'x')",
	} {
		shows(t, calls[0], s, false, want)
		shows(t, calls[0], s, true, want)
	}
}

// P8.2: what is no statement, whether within braces or not.
func TestNoStatement(t *testing.T) {
	for _, s := range []string{
		"", "+", "f", "+/", "{1}", "(f)", "(+/)", "/", "/1", "1/", "1/2", "a/b", "'x'/1", "(1)/2", "1+", "1 f", "f/", "+-", "f g", "1 a", "a 1", "a b", "'x' 'y'", "1'x'",
		"1(2)", "(1)2", "(1)(2)", "a(b)", "(a)1", "()", "()1", "1()", "(())", "{}", "{}1", "1{}2", "{⋄}1", "{1⋄}1", "{⋄1}1", "{1⋄⋄2}1", "a←", "←", "←1", "a←←1", "a←b←1",
		"1←2", "'a'←1", "+←1", "(a)←1", "(a←1)", "a b←1", "1+a←2", "f a←1", "a←1⋄2", "⋄", "1⋄", "1⋄2", "(1⋄2)", "(1:2)", ":", "1:", ":1", "a←1:2", "1:a←2", "1:f", "f:1",
		"a:b:c", "{1:2:3}1", "{:1}1", "{1:}1", "{a←1:2}1", "{1:a←2}1", "{(1:2)}1", "{f}1", "{+/}1", "{1:+}1", "{a f}1", "(f)(g)", "f(g)", "(f 1", "1)", "a←(", "a←()", "a←{}",
		"(f/)", "(/f)1", "(+/1)/2", "(/)1", "{1}{2}", "{1}2 a", "1{2}", "a←+1+", "a←1 b",
	} {
		l := of(s)
		for _, inner := range []bool{false, true} {
			if x, e := parse.Statement(l, some(), inner); len(x) != 0 || e != api.ErrSyntax && e != api.ErrGroup {
				t.Errorf("Statement of %s, %v: %s, %d", s, inner, node.Show(x), e)
			}
			check(t, l, some(), inner)
		}
	}
}

// P8.2: guards and arguments are within braces, or where one is told to be.
func TestInner(t *testing.T) {
	for s, want := range map[string]string{
		"⍵":      "4:%e2%8d%b5",
		"⍺+⍵":    "(7: 4:%e2%8d%ba 9:+ 4:%e2%8d%b5)",
		"(⍵)":    "(5: 4:%e2%8d%b5)",
		"a:1":    "(12: 3:a 1:1)",
		"f a:⍵":  "(12: (6: 14:f 3:a) 4:%e2%8d%b5)",
		"a←⍵":    "(8:a 4:%e2%8d%b5)",
		"{⍵}⍵":   "(6: (11: 4:%e2%8d%b5) 4:%e2%8d%b5)",
		"{1}1:⍺": "(12: (6: (11: 1:1) 1:1) 4:%e2%8d%ba)",
	} {
		shows(t, calls[0], s, true, want)
		shows(t, calls[0], s, false, "")
	}
	// A guard, or what makes a name, is a statement, and no expression.
	for _, s := range []string{"a:1", "a←1", "{1}", "f", "f←g"} {
		shows(t, calls[1], s, true, "")
		shows(t, calls[1], s, false, "")
	}
}

// P8.2: expressions and functions.
func TestExprAndFun(t *testing.T) {
	for s, want := range map[string]string{
		"1":         "1:1",
		"f 1":       "(6: 14:f 1:1)",
		"a f 1":     "(7: 3:a 14:f 1:1)",
		"(1)":       "(5: 1:1)",
		"{a←1⋄a}1":  "(6: (11: (8:a 1:1) 3:a) 1:1)",
		"{a←+}1":    "(6: (11: (8:a 9:+)) 1:1)",
		"'x'f 'yz'": "(7: 2:'x' 14:f 2:'yz')",
	} {
		shows(t, calls[1], s, false, want)
		shows(t, calls[2], s, false, "")
	}
	for s, want := range map[string]string{
		"f":         "14:f",
		"+":         "9:+",
		"f/":        "(10:/ 14:f)",
		"+¨/":       "(10:/ (10:%c2%a8 9:+))",
		"(f)":       "(5: 14:f)",
		"((f)/)¨":   "(10:%c2%a8 (5: (10:/ (5: 14:f))))",
		"{1}":       "(11: 1:1)",
		"{⍵:⍺⋄1}":   "(11: (12: 4:%e2%8d%b5 4:%e2%8d%ba) 1:1)",
		"({⍵}/)":    "(5: (10:/ (11: 4:%e2%8d%b5)))",
		"{a←g⋄a 1}": "(11: (8:a 14:g) (6: 14:a 1:1))",
	} {
		shows(t, calls[2], s, false, want)
		shows(t, calls[2], s, true, want)
		shows(t, calls[1], s, true, "")
	}
	for _, s := range []string{"f←g", "a:1", "f 1", "f g", "/", "a", "a/", "ff", "(f", "{1}2", "⍵", "()", "(f)(g)", "f:g", "1", ""} {
		if x, e := parse.Fun(of(s), some(), true); len(x) != 0 || e != api.ErrSyntax && s != "(f" {
			t.Errorf("Fun of %s: %s, %d", s, node.Show(x), e)
		}
	}
}

// P8.2: names that a body's statements make are bound in those behind them,
// within further braces too, and not behind the body.
func TestScopes(t *testing.T) {
	for s, want := range map[string]string{
		"{f 1⋄f←2⋄f}3":              "(6: (11: (6: 14:f 1:1) (8:f 1:2) 3:f) 1:3)",
		"{a←+⋄a 1}2":                "(6: (11: (8:a 9:+) (6: 14:a 1:1)) 1:2)",
		"{a←+⋄{a 1}2}3":             "(6: (11: (8:a 9:+) (6: (11: (6: 14:a 1:1)) 1:2)) 1:3)",
		"{{a←+⋄1}2⋄a}3":             "(6: (11: (6: (11: (8:a 9:+) 1:1) 1:2) 3:a) 1:3)",
		"{a←+⋄a←1⋄a}2":              "(6: (11: (8:a 9:+) (8:a 1:1) 3:a) 1:2)",
		"{a←(+/)⋄b a b}2":           "(6: (11: (8:a (5: (10:/ 9:+))) (7: 3:b 14:a 3:b)) 1:2)",
		"{a←{f←⍵⋄f}⋄f a f 1}2":      "(6: (11: (8:a (11: (8:f 4:%e2%8d%b5) 3:f)) (6: 14:f (6: 14:a (6: 14:f 1:1)))) 1:2)",
		"a{a←+⋄1}f{f←1⋄f}a":         "(7: 3:a (11: (8:a 9:+) 1:1) (6: 14:f (6: (11: (8:f 1:1) 3:f) 3:a)))",
		"{f←1⋄f}f{a←f⋄a 2}a":        "(6: (11: (8:f 1:1) 3:f) (6: 14:f (6: (11: (8:a 14:f) (6: 14:a 1:2)) 3:a)))",
		"z←{a←+⋄f←1⋄f a f}f a":      "(8:z (6: (11: (8:a 9:+) (8:f 1:1) (7: 3:f 14:a 3:f)) (6: 14:f 3:a)))",
		"{a←a⋄a}1":                  "(6: (11: (8:a 3:a) 3:a) 1:1)",
		"{a←+⋄1}a":                  "(6: (11: (8:a 9:+) 1:1) 3:a)",
		"{f←1⋄f}1 f":                "",
		"{a 1⋄a←+}1":                "",
		"{a←{a 1}⋄1}1":              "",
		"{a←+}a 1":                  "",
		"{z←⍵:1⋄z}1":                "",
		"a{z←f}z{z}a":               "(7: 3:a (11: (8:z 14:f)) (7: 3:z (11: 3:z) 3:a))",
		"a{z←f}(z{z}a)z":            "",
		"{z←f⋄z 1}(z)":              "(6: (11: (8:z 14:f) (6: 14:z 1:1)) (5: 3:z))",
		"{z←f⋄{z←z⋄z 1}1⋄z 2}3":     "(6: (11: (8:z 14:f) (6: (11: (8:z 14:z) (6: 14:z 1:1)) 1:1) (6: 14:z 1:2)) 1:3)",
		"{z←f⋄{z←1⋄z}1⋄z 2}3":       "(6: (11: (8:z 14:f) (6: (11: (8:z 1:1) 3:z) 1:1) (6: 14:z 1:2)) 1:3)",
		"{z←1⋄{z←f⋄z 1}1⋄z 2}3":     "",
		"{x←f⋄y←x⋄z←(y)⋄z/w←1}2":    "",
		"{x←f⋄y←x/⋄z←((y))⋄1 z 2}3": "(6: (11: (8:x 14:f) (8:y (10:/ 14:x)) (8:z (5: (5: 14:y))) (7: 1:1 14:z 1:2)) 1:3)",
	} {
		shows(t, calls[0], s, false, want)
	}
}

// P8.2: a name's text counts, and nothing else: the last one that is bound says
// whether it is a function's.
func TestNames(t *testing.T) {
	for _, x := range []struct {
		env  []api.Bound
		want string
	}{
		{nil, ""},
		{[]api.Bound{{Name: "a b", Fn: true}}, "(6: 14:a%20b 1:1)"},
		{[]api.Bound{{Name: "a b", Fn: true}, {Name: "a b"}}, ""},
		{[]api.Bound{{Name: "a b"}, {Name: "a b", Fn: true}, {Name: "a"}}, "(6: 14:a%20b 1:1)"},
		{[]api.Bound{{Name: "A b", Fn: true}, {Name: "", Fn: true}, {Name: "x", Fn: true}}, ""},
	} {
		l := []api.Token{{Kind: 5, Text: "a b", Glyph: "x"}, {Kind: 3, Text: "", Glyph: "1"}}
		got, _ := parse.Statement(l, x.env, false)
		if s := node.Show(got); s != x.want {
			t.Errorf("Statement with %v: %s, not %s", x.env, s, x.want)
		}
		check(t, l, x.env, false)
	}
}

// P8.1: Class tells what the last one of a name tells.
func TestClass(t *testing.T) {
	env := append(some(), api.Bound{Fn: true})
	for _, x := range []struct {
		name      string
		fn, bound bool
	}{
		{"f", true, true}, {"g", true, true}, {"a", false, true}, {"b", false, true}, {"z", false, false}, {"F", false, false}, {"", true, true}, {"f ", false, false}, {"ff", false, false},
	} {
		if fn, ok := parse.Class(env, x.name); fn != x.fn || ok != x.bound {
			t.Errorf("Class of %q: %v, %v", x.name, fn, ok)
		}
	}
	for _, none := range [][]api.Bound{nil, {}, env[:0]} {
		for _, name := range []string{"", "f"} {
			if fn, ok := parse.Class(none, name); fn || ok {
				t.Errorf("Class of %q, nothing bound: %v, %v", name, fn, ok)
			}
		}
	}
}

// P8.1: Binds of statements that make names, and of such that make none.
func TestBinds(t *testing.T) {
	for s, want := range map[string]api.Bound{
		"z←+": {Name: "z", Fn: true}, "z←f": {Name: "z", Fn: true}, "z←+/": {Name: "z", Fn: true}, "z←f/¨": {Name: "z", Fn: true}, "z←{⍵}": {Name: "z", Fn: true},
		"z←(f)": {Name: "z", Fn: true}, "z←((+/))": {Name: "z", Fn: true}, "z←(({1}))": {Name: "z", Fn: true}, "f←g": {Name: "f", Fn: true}, "a←f": {Name: "a", Fn: true},
		"z←1": {Name: "z"}, "z←'f'": {Name: "z"}, "z←a": {Name: "z"}, "z←(1)": {Name: "z"}, "z←((f a))": {Name: "z"}, "z←f 1": {Name: "z"}, "z←1 f 1": {Name: "z"},
		"z←{1}1": {Name: "z"}, "f←1": {Name: "f"}, "z←⍵": {Name: "z"}, "z←(⍵)": {Name: "z"},
		"1": {}, "a": {}, "f 1": {}, "a f 1": {}, "(1)": {}, "{z←+⋄1}1": {}, "a:1": {}, "'x'": {}, "⍵": {},
	} {
		x, e := parse.Statement(of(s), some(), true)
		if e != api.OK {
			t.Fatalf("Statement of %s: %d", s, e)
		}
		if b, ok := parse.Binds(x); b != want || ok != (want.Name != "") {
			t.Errorf("Binds of %s: %v, %v", s, b, ok)
		}
	}
	for s, want := range map[string]bool{"f": false, "+/": false, "{a←1⋄a}": false, "(f)": false} {
		x, _ := parse.Fun(of(s), some(), true)
		if b, ok := parse.Binds(x); ok != want || b != (api.Bound{}) {
			t.Errorf("Binds of %s: %v, %v", s, b, ok)
		}
	}
}

// P8.1: Binds goes by kinds, whatever else a tree says; what is no tree makes no
// name.
func TestBindsAny(t *testing.T) {
	leaves := []int{1, 2, 3, 4, 9, 13, 14}
	for _, kind := range leaves {
		x := tree(kind, "x")
		for parens := range 4 {
			want := api.Bound{Name: "a b", Fn: kind == 9 || kind == 14}
			if b, ok := parse.Binds(tree(8, "a b", x)); b != want || !ok {
				t.Errorf("Binds of kind %d in %d parentheses: %v, %v", kind, parens, b, ok)
			}
			if b, ok := parse.Binds(x); ok || b != (api.Bound{}) {
				t.Errorf("Binds of a kid of kind %d: %v, %v", kind, b, ok)
			}
			x = tree(5, "", x)
		}
	}
	one := tree(1, "1")
	for fn, l := range map[bool][][]api.Node{
		true:  {tree(11, "", one), tree(10, "/", one), tree(11, "", one, tree(8, "z", one), one), tree(5, "", tree(10, "/", tree(5, "", one)))},
		false: {tree(6, "", one, one), tree(7, "", one, one, one), tree(12, "", one, one), tree(8, "z", tree(9, "+")), tree(5, "", tree(8, "z", tree(9, "+"))), tree(5, "", one)},
	} {
		for _, x := range l {
			if b, ok := parse.Binds(tree(8, "a", x)); b != (api.Bound{Name: "a", Fn: fn}) || !ok {
				t.Errorf("Binds of %s: %v, %v", node.Show(x), b, ok)
			}
			if b, ok := parse.Binds(tree(5, "", tree(8, "a", x))); b != (api.Bound{}) || ok {
				t.Errorf("Binds of %s, in parentheses: %v, %v", node.Show(x), b, ok)
			}
		}
	}
	set := func(kids ...int) api.Node { return api.Node{Kind: 8, Text: "a", Kids: kids} }
	plus := api.Node{Kind: 9, Text: "+"}
	for _, l := range [][]api.Node{
		nil, {}, {set()}, {set(0)}, {plus, set(1)}, {plus, set(-1)}, {plus, set(0, 0)}, {plus, plus, set(0)}, {plus, plus, set(0, 1)}, {plus, set(math.MaxInt)},
		{plus, {Kind: 8, Kids: []int{0}}}, {{Kind: 9}, set(0)}, {{Kind: 99, Text: "a"}, set(0)}, {{Kind: 5, Kids: []int{0}}, set(0)}, {{Kind: 5, Kids: []int{1}}, set(0)},
		{set(1), plus}, {plus, set(0), set(0)},
	} {
		if b, ok := parse.Binds(l); ok || b != (api.Bound{}) {
			t.Errorf("Binds of %v: %v, %v", l, b, ok)
		}
	}
	far := one
	for len(far) < 399 {
		far = tree(5, "", far)
	}
	if b, ok := parse.Binds(tree(8, "a", far)); b != (api.Bound{Name: "a"}) || !ok {
		t.Errorf("Binds of 400 nodes: %v, %v", b, ok)
	}
	// A tree whose nodes stand in another order than Join lays them.
	odd := []api.Node{plus, plus, {Kind: 5, Kids: []int{0}}, {Kind: 5, Kids: []int{1}}, {Kind: 11, Kids: []int{2, 3}}, {Kind: 5, Kids: []int{4}}, set(5)}
	if b, ok := parse.Binds(odd); b != (api.Bound{Name: "a", Fn: true}) || !ok {
		t.Errorf("Binds of an odd tree: %v, %v", b, ok)
	}
}

// refused sees to it that all three calls answer an error, and nothing beside it
// (R2).
func refused(t *testing.T, words string, l []api.Token, want api.Errno) {
	t.Helper()
	for _, c := range calls {
		for _, inner := range []bool{false, true} {
			if x, e := c.does(l, some(), inner); len(x) != 0 || e != want {
				t.Errorf("%s of %s, %v: %d nodes, %d, not %d", c.name, words, inner, len(x), e, want)
			}
		}
	}
}

// P8.2: tokens that are none of these: by their kinds, and by what they lack.
func TestTokens(t *testing.T) {
	for kind := -1; kind < 14; kind++ {
		for _, text := range []string{"", "x"} {
			for _, glyph := range []string{"", "g"} {
				x := api.Token{Kind: kind, Text: text, Glyph: glyph}
				right := kind == 8 || (kind == 4 || kind == 5) && text != "" || (kind == 3 || kind == 6 || kind == 7 || kind == 9) && glyph != ""
				for _, l := range [][]api.Token{{x}, append(of("+"), x), {x, of("1")[0]}, append(of("1 + ( a"), x, of(")")[0])} {
					if !right {
						refused(t, lex.Text(l), l, api.ErrTokens)
					}
					check(t, l, some(), true)
				}
			}
		}
	}
	for _, kind := range []int{math.MinInt, math.MaxInt, 3 + 1<<32} {
		refused(t, "a great kind", []api.Token{{Kind: kind, Text: "1", Glyph: "1"}}, api.ErrTokens)
	}
	for _, s := range []string{"1 2", " 1", "1⍝", "#", "'x", "1234567890123456789", "1\n", "¯", "a234567890123456789012"} {
		refused(t, s, lex.Line(s), api.ErrTokens)
	}
}

// P8.2: which glyph, or which bytes, a token has is no matter: trees say them,
// and signs are told by their glyphs.
func TestAnyTexts(t *testing.T) {
	for s, l := range map[string][]api.Token{
		"1:x%20%20%28":     {{Kind: 3, Text: "7", Glyph: "x "}, {Kind: 3, Glyph: "("}},
		"2:a":              {{Kind: 4, Text: "a", Glyph: "b"}},
		"(8:1 9:%ff)":      {{Kind: 5, Text: "1"}, {Kind: 8, Text: ":", Glyph: "←"}, {Kind: 6, Text: "+", Glyph: "\xff"}},
		"(6: 9:%28 4:%29)": {{Kind: 6, Glyph: "("}, {Kind: 9, Glyph: ")"}},
		"(5: 1:1)":         {{Kind: 8, Text: "x", Glyph: "("}, {Kind: 3, Glyph: "1"}, {Kind: 8, Glyph: ")"}},
		"":                 {{Kind: 8, Text: "(", Glyph: "["}, {Kind: 3, Glyph: "1"}, {Kind: 8, Text: ")", Glyph: "]"}},
	} {
		got, e := parse.Statement(l, nil, true)
		if node.Show(got) != s || (e == api.OK) != (s != "") {
			t.Errorf("Statement of %v: %s, %d, not %s", l, node.Show(got), e, s)
		}
		check(t, l, nil, true)
	}
	for _, glyph := range []string{"", "[", "⋄⋄", "`s", "=", " "} {
		refused(t, "the sign "+glyph, append(of("a 1"), api.Token{Kind: 8, Text: "←", Glyph: glyph}), api.ErrSyntax)
	}
}

// P8.2: of several errors the first one that the promise names.
func TestFirstError(t *testing.T) {
	long, deep := strings.Repeat("1 ", 101), strings.Repeat("(", 21)+"1"+strings.Repeat(")", 21)
	for s, want := range map[string]api.Errno{
		"(1 # ":            api.ErrTokens,
		deep + "#":         api.ErrTokens,
		long + "#":         api.ErrTokens,
		"+ + #":            api.ErrTokens,
		"(":                api.ErrGroup,
		"1)":               api.ErrGroup,
		"(}":               api.ErrGroup,
		"{1(⋄}":            api.ErrGroup,
		deep + "(":         api.ErrGroup,
		long + ")":         api.ErrGroup,
		"a a }":            api.ErrGroup,
		deep:               api.ErrDeep,
		"1 a" + deep:       api.ErrDeep,
		long + deep:        api.ErrDeep,
		"{" + deep + "}1":  api.ErrDeep,
		long + "a":         api.ErrNode,
		long + ":⋄/":       api.ErrNode,
		long + "()":        api.ErrNode,
		"1 a":              api.ErrSyntax,
		long[:198] + "()":  api.ErrNode,
		long[:196] + "()":  api.ErrSyntax,
		deep[1:42] + ")/+": api.ErrGroup,
	} {
		refused(t, s, of(s), want)
	}
}

// P8.2: 100 tokens are not too many, 101 are, of whatever they are.
func TestLimits(t *testing.T) {
	for _, x := range []struct {
		c      call
		s      string
		nodes  int
		binder bool
	}{
		{calls[1], strings.Repeat("1 ", 100), 1, false},
		{calls[1], strings.Repeat("-", 99) + "1", 199, false},
		{calls[1], strings.Repeat("-1", 50), 150, false},
		{calls[1], "1" + strings.Repeat("-1", 49) + " 1", 148, false},
		{calls[1], "+" + strings.Repeat("/", 98) + "1", 101, false},
		{calls[2], "+" + strings.Repeat("/", 99), 100, false},
		{calls[0], "a←" + strings.Repeat("f ", 97) + "1", 196, true},
		{calls[0], "f←{" + strings.Repeat("1⋄", 47) + "1 2}", 50, true},
		{calls[1], strings.Repeat("(", 20) + strings.Repeat("1 ", 60) + strings.Repeat(")", 20), 21, false},
		{calls[1], strings.Repeat("{(", 10) + strings.Repeat("-", 49) + "1" + strings.Repeat(")}1", 10), 139, false},
	} {
		l := of(x.s)
		got, e := x.c.does(l, some(), false)
		if len(l) != 100 || len(got) != x.nodes || e != api.OK || !node.Right(got) {
			t.Errorf("%s of %d tokens, %s: %d nodes, %d", x.c.name, len(l), x.s, len(got), e)
		}
		if _, ok := parse.Binds(got); ok != x.binder {
			t.Errorf("Binds of %s: %v", x.s, ok)
		}
		refused(t, x.s, append(l, of("1")...), api.ErrNode)
		refused(t, x.s, append(of("+"), l...), api.ErrNode)
	}
	for n := range 25 {
		for _, s := range []string{strings.Repeat("(", n) + "1" + strings.Repeat(")", n), strings.Repeat("(", n) + "f" + strings.Repeat(")", n), strings.Repeat("{", n) + "⍵" + strings.Repeat("}1", n)} {
			check(t, of(s), some(), true)
		}
	}
	refused(t, "many tokens", slices.Repeat(of("1"), 1<<17), api.ErrNode)
	refused(t, "many brackets", slices.Repeat(of("()"), 1<<16), api.ErrNode)
	refused(t, "many open brackets", slices.Repeat(of("{"), 1<<17), api.ErrGroup)
	env := append(some(), slices.Repeat([]api.Bound{{Name: "a"}}, 1<<20)...)
	if x, e := parse.Statement(of("a←{g←1⋄f⍵}a"), env, false); node.Show(x) != "(8:a (6: (11: (8:g 1:1) (6: 14:f 4:%e2%8d%b5)) 3:a))" || e != api.OK {
		t.Errorf("Statement with many names: %s, %d", node.Show(x), e)
	}
}

// R1: long texts.
func TestLong(t *testing.T) {
	s := strings.Repeat("x", 1<<20)
	l := []api.Token{{Kind: 5, Text: s}, {Kind: 8, Text: s, Glyph: "←"}, {Kind: 3, Text: s, Glyph: s}, {Kind: 3, Glyph: s}}
	x, e := parse.Statement(l, []api.Bound{{Name: s, Fn: true}}, false)
	if len(x) != 2 || x[1].Text != s || x[0].Text != s+" "+s || e != api.OK {
		t.Errorf("Statement of long texts: %d nodes, %d", len(x), e)
	}
	if b, ok := parse.Binds(x); b.Name != s || b.Fn || !ok {
		t.Errorf("Binds of a long text: %v, %v", b.Fn, ok)
	}
}

// P8.2, P8.3: all short lists of tokens of all kinds.
func TestAllShort(t *testing.T) {
	all := of("1 a f 'x' + / ( ) { } ⋄ : ← ⍵")
	told := 0
	var lists func(n int, l []api.Token)
	lists = func(n int, l []api.Token) {
		told += check(t, l, some(), n%2 == 0)
		if n < 3 {
			told += check(t, l, some(), n%2 != 0)
		}
		for _, x := range all {
			if n < 4 {
				lists(n+1, append(l[:len(l):len(l)], x))
			}
		}
	}
	lists(0, nil)
	if told < 500 {
		t.Errorf("only %d calls told a tree", told)
	}
}

// P8.2, P8.3: lists of six tokens and more of few kinds, each with brackets.
func TestAllBracketed(t *testing.T) {
	for _, c := range []struct{ ahead, few, behind string }{
		{"{", "1 f / ⋄ : ⍵ a ←", "}1"}, {"(", "1 f / ( )", ")"}, {"{f←1⋄", "f 1 + :", "}"}, {"{a←+⋄", "a 1 ⋄ { }", "}1"}, {"z←", "( ) f 1 /", ""},
	} {
		few := of(c.few)
		var lists func(n int, l []api.Token)
		lists = func(n int, l []api.Token) {
			check(t, append(l[:len(l):len(l)], of(c.behind)...), some(), n == 3)
			for _, x := range few {
				if n < 4 {
					lists(n+1, append(l[:len(l):len(l)], x))
				}
			}
		}
		lists(0, of(c.ahead))
	}
}

// R3: nil and empty lists are one.
func TestEmpty(t *testing.T) {
	for _, l := range [][]api.Token{nil, {}, of("1")[:0]} {
		refused(t, "nothing", l, api.ErrSyntax)
		for _, env := range [][]api.Bound{nil, {}, some()[:0]} {
			check(t, l, env, false)
			check(t, of("{f←+⋄f 1}2"), env, false)
		}
	}
}

// R3: what is handed in is not written into, nor its spare room.
func TestHandedIn(t *testing.T) {
	l := append(of("z←{b←+⋄h←f⋄(1 h⍵):1 2⋄x←h/⋄x b{⍵:(⍵)⋄⍺}⍵}(3)"), of("9 9 9 9")...)
	env := append(some(), slices.Repeat([]api.Bound{{Name: "spare", Fn: true}}, 20)...)
	keptL, keptEnv := slices.Clone(l), slices.Clone(env)
	for range 2 {
		for _, c := range calls {
			for _, inner := range []bool{false, true} {
				c.does(l[:len(l)-4], env[:6], inner)
				c.does(l[2:len(l)-7], env[:6], inner)
				c.does(l[2:4], env[:2], inner)
			}
		}
		if x, e := parse.Statement(l[:len(l)-4], env[:6], false); len(x) == 0 || e != api.OK {
			t.Fatalf("Statement: %v, %d", x, e)
		}
		parse.Class(env[:6], "spare")
		if !slices.Equal(l, keptL) || !slices.Equal(env, keptEnv) {
			t.Fatalf("what was handed in is %v, %v", l, env)
		}
	}
}

// R3: answers are new memory: none shares any with another one, nor do lists
// within.
func TestNewMemory(t *testing.T) {
	l, env := of("z←1 2 f{⍵:1⋄⍺+⍵}3"), some()
	first, _ := parse.Statement(l, env, false)
	again, _ := parse.Statement(l, env, false)
	want := "(8:z (7: 1:1%202 14:f (6: (11: (12: 4:%e2%8d%b5 1:1) (7: 4:%e2%8d%ba 9:+ 4:%e2%8d%b5)) 1:3)))"
	clear(l)
	clear(env)
	for i := range again {
		again[i].Kids = append(again[i].Kids, 99, 99)[:len(again[i].Kids)]
		for k := range again[i].Kids {
			again[i].Kids[k] = 77
		}
	}
	clear(again[:cap(again)])
	if s := node.Show(first); s != want {
		t.Errorf("with others written over: %s, not %s", s, want)
	}
	for i := range first {
		more := append(first[i].Kids, 99, 99, 99)
		if s := node.Show(first); s != want {
			t.Errorf("behind an append to a node's kids, %v: %s, not %s", more, s, want)
		}
	}
}

// R3: the bytes of answers are their own, too.
func TestNewBytes(t *testing.T) {
	long := strings.Repeat("long", 10)
	l := []api.Token{{Kind: 5, Text: long}, {Kind: 8, Glyph: "←"}, {Kind: 6, Glyph: long}, {Kind: 3, Glyph: long}}
	x, e := parse.Statement(l, nil, false)
	b, ok := parse.Binds(x)
	if e != api.OK || !ok {
		t.Fatalf("Statement: %v, %d", x, e)
	}
	from := map[*byte]bool{unsafe.StringData(long): true}
	for _, s := range []string{x[0].Text, x[1].Text, x[3].Text, b.Name} {
		if p := unsafe.StringData(s); s != long || from[p] {
			t.Errorf("%q shares bytes with another one", s)
		}
		from[unsafe.StringData(s)] = true
	}
}
