package node_test

import (
	"fmt"
	"math"
	"slices"
	"strings"
	"testing"
	"unsafe"

	"diaeresis/api"
	"diaeresis/node"
)

// formed tells, by the chapter's words alone, whether nodes of a kind may have so
// many kids, and such a text.
func formed(kind, kids int, text string) bool {
	switch kind {
	case 1, 2, 3, 4, 9, 13, 14:
		return kids == 0 && text != ""
	case 5:
		return kids == 1 && text == ""
	case 8, 10:
		return kids == 1 && text != ""
	case 6, 12:
		return kids == 2 && text == ""
	case 7:
		return kids == 3 && text == ""
	case 11:
		return kids >= 1 && text == ""
	}
	return false
}

// modelRight tells whether nodes are a tree, word by word.
func modelRight(t []api.Node) bool {
	if len(t) < 1 || len(t) > 400 {
		return false
	}
	owners := map[int]int{}
	for at, x := range t {
		if !formed(x.Kind, len(x.Kids), x.Text) {
			return false
		}
		for i, k := range x.Kids {
			if k < 0 || k >= at || i > 0 && k <= x.Kids[i-1] {
				return false
			}
			owners[k]++
		}
	}
	for at := range t {
		want := 1
		if at == len(t)-1 {
			want = 0
		}
		if owners[at] != want {
			return false
		}
	}
	return true
}

// modelShow is the show of the node at a place.
func modelShow(t []api.Node, at int) string {
	text := ""
	for _, c := range []byte(t[at].Text) {
		if c < 0x21 || c > 0x7e || strings.IndexByte("%():", c) >= 0 {
			text += fmt.Sprintf("%%%02x", c)
		} else {
			text += string(rune(c))
		}
	}
	s := fmt.Sprintf("%d:%s", t[at].Kind, text)
	if len(t[at].Kids) == 0 {
		return s
	}
	for _, k := range t[at].Kids {
		s += " " + modelShow(t, k)
	}
	return "(" + s + ")"
}

// modelDeep is how many nodes there are from the one at a place to the furthest
// one.
func modelDeep(t []api.Node, at int) int {
	deep := 0
	for _, k := range t[at].Kids {
		deep = max(deep, modelDeep(t, k))
	}
	return deep + 1
}

// modelOwn are the places of the nodes of the tree whose root is at a place,
// rising.
func modelOwn(t []api.Node, at int) []int {
	list := []int{at}
	for _, k := range t[at].Kids {
		list = append(list, modelOwn(t, k)...)
	}
	slices.Sort(list)
	return list
}

// moved are nodes whose kids' places are so much greater.
func moved(t []api.Node, more int) []api.Node {
	var list []api.Node
	for _, x := range t {
		y := api.Node{Kind: x.Kind, Text: x.Text}
		for _, k := range x.Kids {
			y.Kids = append(y.Kids, k+more)
		}
		list = append(list, y)
	}
	return list
}

// modelKid is the tree of the root's n-th kid of a tree, and whether there is
// one whose nodes stand one behind the other.
func modelKid(t []api.Node, n int) ([]api.Node, bool) {
	kids := t[len(t)-1].Kids
	if n < 0 || n >= len(kids) {
		return nil, false
	}
	own := modelOwn(t, kids[n])
	for i := range own {
		if own[i] != own[0]+i {
			return nil, false
		}
	}
	return moved(t[own[0]:own[len(own)-1]+1], -own[0]), true
}

// modelJoin is what comes of a root and some trees, if it is a tree.
func modelJoin(kind int, text string, kids [][]api.Node) ([]api.Node, bool) {
	var list []api.Node
	root := api.Node{Kind: kind, Text: text}
	for _, k := range kids {
		if !modelRight(k) {
			return nil, false
		}
		list = append(list, moved(k, len(list))...)
		root.Kids = append(root.Kids, len(list)-1)
	}
	list = append(list, root)
	return list, modelRight(list)
}

// spelt is nodes as a text, nil and empty lists being one.
func spelt(l []api.Node) string {
	s := ""
	for _, x := range l {
		s += fmt.Sprintf("%d %q %v; ", x.Kind, x.Text, x.Kids)
	}
	return s
}

// equal tells whether nodes are the same.
func equal(a, b []api.Node) bool {
	return spelt(a) == spelt(b)
}

// check holds all that is told of nodes against the models.
func check(t *testing.T, l []api.Node) {
	t.Helper()
	right := modelRight(l)
	if got := node.Right(l); got != right {
		t.Fatalf("Right of %v: %v", l, got)
	}
	show, deep := "", 0
	if right {
		show, deep = modelShow(l, len(l)-1), modelDeep(l, len(l)-1)
	}
	if got := node.Show(l); got != show {
		t.Fatalf("Show of %v: %s, not %s", l, got, show)
	}
	if got := node.Deep(l); got != deep {
		t.Fatalf("Deep of %v: %d, not %d", l, got, deep)
	}
	places := []int{math.MinInt, -1, 0, 1, 2, 3, len(l) - 1, len(l), math.MaxInt}
	for _, n := range places {
		var want []api.Node
		ok := false
		if right {
			want, ok = modelKid(l, n)
		}
		checkKid(t, l, n, want, ok)
	}
}

// checkKid holds what Kid tells against what is wanted: a tree, or ErrNode.
func checkKid(t *testing.T, l []api.Node, n int, want []api.Node, ok bool) {
	t.Helper()
	got, e := node.Kid(l, n)
	if !ok {
		if len(got) != 0 || e != api.ErrNode {
			t.Fatalf("Kid %d of %v: %v, %d", n, l, got, e)
		}
		return
	}
	if !equal(got, want) || e != api.OK || !modelRight(got) {
		t.Fatalf("Kid %d of %v: %v, %d, not %v", n, l, got, e, want)
	}
}

// leaf is a leaf that is right.
func leaf(t *testing.T, kind int, text string) []api.Node {
	t.Helper()
	l, e := node.Leaf(kind, text)
	if e != api.OK || !equal(l, []api.Node{{Kind: kind, Text: text}}) {
		t.Fatalf("Leaf of %d, %q: %v, %d", kind, text, l, e)
	}
	return l
}

// join is what is joined, held against the model; nothing, if that is refused.
func join(t *testing.T, kind int, text string, kids ...[]api.Node) []api.Node {
	t.Helper()
	want, ok := modelJoin(kind, text, kids)
	got, e := node.Join(kind, text, kids)
	if !ok {
		if len(got) != 0 || e != api.ErrNode {
			t.Fatalf("Join of %d, %q, %v: %v, %d", kind, text, kids, got, e)
		}
		return nil
	}
	if !equal(got, want) || e != api.OK {
		t.Fatalf("Join of %d, %q, %v: %v, %d, not %v", kind, text, kids, got, e, want)
	}
	return got
}

// plus is the document's example: `+` of 1 2, over it.
func plus(t *testing.T) []api.Node {
	return join(t, 6, "", join(t, 10, "/", leaf(t, 9, "+")), leaf(t, 1, "1 2"))
}

// P7.1, P7.2: the document's examples, written out.
func TestExamples(t *testing.T) {
	l := join(t, 6, "", leaf(t, 9, "+"), leaf(t, 1, "1"))
	if s := node.Show(l); s != "(6: 9:+ 1:1)" {
		t.Errorf("Show: %s", s)
	}
	l = plus(t)
	if s := node.Show(l); s != "(6: (10:/ 9:+) 1:1%202)" {
		t.Errorf("Show: %s", s)
	}
	want := []api.Node{{Kind: 9, Text: "+"}, {Kind: 10, Text: "/", Kids: []int{0}}, {Kind: 1, Text: "1 2"}, {Kind: 6, Kids: []int{1, 2}}}
	if !equal(l, want) || node.Deep(l) != 3 {
		t.Errorf("Join: %v, deep %d", l, node.Deep(l))
	}
	k, e := node.Kid(l, 0)
	if !equal(k, want[:2]) || e != api.OK {
		t.Errorf("Kid 0: %v, %d", k, e)
	}
	k, e = node.Kid(l, 1)
	if !equal(k, want[2:3]) || e != api.OK {
		t.Errorf("Kid 1: %v, %d", k, e)
	}
	set := join(t, 8, "a", leaf(t, 1, "1"))
	mon := join(t, 6, "", leaf(t, 9, "-"), leaf(t, 4, "⍵"))
	l = join(t, 11, "", set, join(t, 12, "", leaf(t, 4, "⍵"), leaf(t, 3, "a")), join(t, 5, "", mon))
	if s := node.Show(l); s != "(11: (8:a 1:1) (12: 4:%e2%8d%b5 3:a) (5: (6: 9:- 4:%e2%8d%b5)))" {
		t.Errorf("Show: %s", s)
	}
	if k, e := node.Kid(l, 2); node.Show(k) != "(5: (6: 9:- 4:%e2%8d%b5))" || node.Deep(k) != 3 || node.Deep(l) != 4 || e != api.OK {
		t.Errorf("Kid 2: %v, %d", k, e)
	}
}

// P7.1, P7.2: all kinds, with any number of kids, with a text and without one.
func TestForms(t *testing.T) {
	kinds := []int{math.MinInt, -1, math.MaxInt, 1 + 1<<32, 5 - 1<<32}
	for kind := range 20 {
		kinds = append(kinds, kind)
	}
	one := []api.Node{{Kind: 3, Text: "a"}}
	right := 0
	for _, kind := range kinds {
		for _, text := range []string{"", "a", " ", "\x00", "←"} {
			for n := range 7 {
				l := join(t, kind, text, slices.Repeat([][]api.Node{one}, n)...)
				root := api.Node{Kind: kind, Text: text}
				for k := range n {
					root.Kids = append(root.Kids, k)
				}
				check(t, append(slices.Repeat(one, n), root))
				if len(l) > 0 {
					right++
				}
			}
			want := formed(kind, 0, text)
			l, e := node.Leaf(kind, text)
			if want && (!equal(l, []api.Node{{Kind: kind, Text: text}}) || e != api.OK) || !want && (len(l) != 0 || e != api.ErrNode) {
				t.Errorf("Leaf of %d, %q: %v, %d", kind, text, l, e)
			}
		}
	}
	// Of four texts seven kinds of leaves, and two of one kid; without a text
	// four kinds of one number of kids, and one of six.
	if want := 4*9 + 4 + 6; right != want {
		t.Errorf("%d forms are right, not %d", right, want)
	}
}

// P7.1: what is no tree.
func TestNoTrees(t *testing.T) {
	a, paren := api.Node{Kind: 3, Text: "a"}, api.Node{Kind: 5, Kids: []int{0}}
	two := func(kids ...int) api.Node { return api.Node{Kind: 6, Kids: kids} }
	for _, l := range [][]api.Node{
		nil,
		{},
		{{}},
		{a, a},
		{a, a, a},
		{paren},
		{paren, a},
		{paren, paren},
		{a, paren, paren},
		{a, paren, two(0, 1)},
		{a, a, paren},
		{a, a, two(0, 0)},
		{a, a, two(1, 0)},
		{a, a, two(1, 1)},
		{a, a, two(0, 2)},
		{a, a, two(0, 3)},
		{a, a, two(-1, 0)},
		{a, a, two(-1, 1)},
		{a, a, two(math.MinInt, 1)},
		{a, a, two(0, math.MaxInt)},
		{a, a, two(0, 1<<32+1)},
		{a, a, two(0, 1), a},
		{a, a, two(0, 1), paren},
		{a, two(0, 2), a},
		{a, a, {Kind: 11, Kids: []int{0, 1, 1}}},
		{a, a, {Kind: 11, Kids: []int{0, 1, 2}}},
		{a, {Kind: 5, Kids: []int{1}}},
		{a, {Kind: 5, Kids: []int{-1}}},
		{a, {Kind: 5, Kids: []int{0}, Text: "x"}},
		{{Kind: 3, Text: "a", Kids: []int{0}}},
		{a, {Kind: 3, Text: "a", Kids: []int{0}}},
		{{Kind: 3}, paren},
		{{Kind: 15, Text: "a"}, paren},
	} {
		if node.Right(l) {
			t.Errorf("Right of %v", l)
		}
		check(t, l)
		join(t, 5, "", l)
		join(t, 6, "", l, []api.Node{a})
		join(t, 6, "", []api.Node{a}, l)
	}
}

// P7.1, P7.2: trees whose nodes stand among those of others are right, but have
// kids that are not answered.
func TestOdd(t *testing.T) {
	a, b, c := api.Node{Kind: 3, Text: "a"}, api.Node{Kind: 1, Text: "2"}, api.Node{Kind: 2, Text: "'c'"}
	for _, x := range []struct {
		l    []api.Node
		kids []string
		show string
	}{
		{[]api.Node{a, b, {Kind: 5, Kids: []int{0}}, {Kind: 6, Kids: []int{1, 2}}}, []string{"1:2", ""}, "(6: 1:2 (5: 3:a))"},
		{[]api.Node{a, b, {Kind: 5, Kids: []int{1}}, {Kind: 6, Kids: []int{0, 2}}}, []string{"3:a", "(5: 1:2)"}, "(6: 3:a (5: 1:2))"},
		{[]api.Node{a, b, {Kind: 5, Kids: []int{0}}, {Kind: 5, Kids: []int{1}}, {Kind: 6, Kids: []int{2, 3}}}, []string{"", ""}, "(6: (5: 3:a) (5: 1:2))"},
		{
			[]api.Node{a, b, c, {Kind: 6, Kids: []int{0, 2}}, {Kind: 5, Kids: []int{1}}, {Kind: 12, Kids: []int{3, 4}}, {Kind: 5, Kids: []int{5}}},
			[]string{"(12: (6: 3:a 2:'c') (5: 1:2))"}, "(5: (12: (6: 3:a 2:'c') (5: 1:2)))",
		},
		{
			[]api.Node{a, b, {Kind: 5, Kids: []int{0}}, {Kind: 5, Kids: []int{1}}, {Kind: 6, Kids: []int{2, 3}}, c, {Kind: 11, Kids: []int{4, 5}}},
			[]string{"(6: (5: 3:a) (5: 1:2))", "2:'c'"}, "(11: (6: (5: 3:a) (5: 1:2)) 2:'c')",
		},
	} {
		check(t, x.l)
		if s := node.Show(x.l); s != x.show || !node.Right(x.l) {
			t.Errorf("Show of %v: %s", x.l, s)
		}
		for n, want := range x.kids {
			k, e := node.Kid(x.l, n)
			if node.Show(k) != want || (e == api.OK) != (want != "") || (e == api.ErrNode) != (want == "") {
				t.Errorf("Kid %d of %v: %v, %d", n, x.l, k, e)
			}
		}
		// Joined, it is a kid that stands in one piece.
		l := join(t, 6, "", x.l, []api.Node{a})
		if k, e := node.Kid(l, 0); !equal(k, x.l) || e != api.OK {
			t.Errorf("Kid 0 of %v: %v, %d", l, k, e)
		}
	}
}

// P7.1: each byte in a show.
func TestShowBytes(t *testing.T) {
	plain := 0
	for c := range 256 {
		s := string([]byte{byte(c)})
		want := "3:" + s
		if c < 0x21 || c > 0x7e || strings.Contains("%():", s) {
			want = fmt.Sprintf("3:%%%02x", c)
		} else {
			plain++
		}
		if got := node.Show(leaf(t, 3, s)); got != want {
			t.Errorf("Show of %q: %s, not %s", s, got, want)
		}
		if got := node.Show(join(t, 8, "x"+s, leaf(t, 3, s+"y"))); got != "(8:x"+want[2:]+" 3:"+want[2:]+"y)" {
			t.Errorf("Show of %q twice: %s", s, got)
		}
	}
	if plain != 90 {
		t.Errorf("%d bytes stand as they are", plain)
	}
	for s, want := range map[string]string{
		" ": "%20", "!": "!", "~": "~", "\x7f": "%7f", "\x80": "%80", "\xff": "%ff", "\x1f": "%1f", "\n": "%0a", "\x00": "%00",
		"%": "%25", "(": "%28", ")": "%29", ":": "%3a", "%20": "%2520", "¯7": "%c2%af7", "'a b'": "'a%20b'",
	} {
		if got := node.Show(leaf(t, 2, s)); got != "2:"+want {
			t.Errorf("Show of %q: %s", s, got)
		}
	}
}

// P7.1: the same, node by node, whether trees or not.
func TestSame(t *testing.T) {
	a := []api.Node{{Kind: 3, Text: "a"}, {Kind: 3, Text: "b"}, {Kind: 6, Kids: []int{0, 1}}}
	for _, x := range []struct {
		a, b []api.Node
		want bool
	}{
		{nil, nil, true},
		{nil, []api.Node{}, true},
		{nil, []api.Node{{}}, false},
		{[]api.Node{{}}, []api.Node{{}}, true},
		{[]api.Node{{}}, []api.Node{{Kids: []int{}}}, true},
		{a, slices.Clone(a), true},
		{a, a[:2], false},
		{a[:2], a[:2:2], true},
		{a[:1], a[1:2], false},
		{a, []api.Node{a[1], a[0], a[2]}, false},
		{a, []api.Node{a[0], a[1], {Kind: 6, Kids: []int{0, 1}}}, true},
		{a, []api.Node{a[0], a[1], {Kind: 6, Kids: []int{1, 0}}}, false},
		{a, []api.Node{a[0], a[1], {Kind: 6, Kids: []int{0}}}, false},
		{a, []api.Node{a[0], a[1], {Kind: 6, Kids: []int{0, 1, 2}}}, false},
		{a, []api.Node{a[0], a[1], {Kind: 6}}, false},
		{a, []api.Node{a[0], a[1], {Kind: 12, Kids: []int{0, 1}}}, false},
		{a, []api.Node{a[0], a[1], {Kind: 6, Text: "x", Kids: []int{0, 1}}}, false},
		{a, []api.Node{a[0], {Kind: 3, Text: "B"}, a[2]}, false},
		{a, []api.Node{a[0], {Kind: 14, Text: "b"}, a[2]}, false},
		{a, append(slices.Clone(a), a...), false},
	} {
		if node.Same(x.a, x.b) != x.want || node.Same(x.b, x.a) != x.want {
			t.Errorf("Same of %v, %v: not %v", x.a, x.b, x.want)
		}
	}
}

// chain is a tree of so many nodes, each but one in the next one's parentheses.
func chain(n int) []api.Node {
	l := []api.Node{{Kind: 3, Text: "a"}}
	for at := 1; at < n; at++ {
		l = append(l, api.Node{Kind: 5, Kids: []int{at - 1}})
	}
	return l
}

// wide is a tree of so many nodes, all but one the root's kids.
func wide(n int) []api.Node {
	var l []api.Node
	root := api.Node{Kind: 11}
	for at := range n - 1 {
		l = append(l, api.Node{Kind: 3, Text: "a"})
		root.Kids = append(root.Kids, at)
	}
	return append(l, root)
}

// P7.1, P7.2: how many nodes a tree may have.
func TestManyNodes(t *testing.T) {
	for _, n := range []int{2, 20, 21, 398, 399, 400, 401, 402, 800, 1 << 16} {
		c, w := chain(n), wide(n)
		if n > 400 {
			for _, l := range [][]api.Node{c, w} {
				if node.Right(l) || node.Show(l) != "" || node.Deep(l) != 0 {
					t.Errorf("of %d nodes: Right", n)
				}
				checkKid(t, l, 0, nil, false)
				join(t, 5, "", l)
			}
			continue
		}
		check(t, c)
		check(t, w)
		if node.Deep(c) != n || node.Deep(w) != 2 {
			t.Errorf("Deep of %d nodes: %d, %d", n, node.Deep(c), node.Deep(w))
		}
		if k, e := node.Kid(w, n-2); len(k) != 1 || e != api.OK {
			t.Errorf("Kid of %d: %v, %d", n, k, e)
		}
		checkKid(t, w, n-1, nil, false)
		if l := join(t, 5, "", c); (len(l) == n+1) != (n < 400) {
			t.Errorf("Join of %d nodes: %d", n, len(l))
		}
	}
	if s := node.Show(chain(400)); s != strings.Repeat("(5: ", 399)+"3:a"+strings.Repeat(")", 399) {
		t.Errorf("Show of 400 nodes: %s", s)
	}
	for _, x := range []struct {
		sizes []int
		right bool
	}{
		{[]int{399}, true}, {[]int{400}, false}, {[]int{200, 199}, true}, {[]int{200, 200}, false}, {[]int{399, 1}, false}, {[]int{1, 398}, true},
		{[]int{1, 399}, false}, {slices.Repeat([]int{1}, 399), true}, {slices.Repeat([]int{1}, 400), false}, {slices.Repeat([]int{399}, 1000), false},
		{slices.Repeat([]int{3}, 133), true}, {slices.Repeat([]int{3}, 134), false}, {append(slices.Repeat([]int{3}, 133), 1), false},
		{[]int{400, 400}, false}, {[]int{401}, false}, {[]int{1, 401}, false}, {slices.Repeat([]int{1}, 1<<20), false},
	} {
		var kids [][]api.Node
		for _, n := range x.sizes {
			kids = append(kids, chain(n))
		}
		l, e := node.Join(11, "", kids)
		if (e == api.OK) != x.right || (e == api.ErrNode) == x.right || (len(l) != 0) != x.right || x.right && !modelRight(l) {
			t.Errorf("Join of %d trees, the first one of %d: %d nodes, %d", len(kids), x.sizes[0], len(l), e)
		}
	}
}

// R1, R5: lists that are long in other ways.
func TestLong(t *testing.T) {
	a := api.Node{Kind: 3, Text: strings.Repeat("(", 1<<16)}
	if s := node.Show([]api.Node{a}); s != "3:"+strings.Repeat("%28", 1<<16) {
		t.Errorf("Show of a long text: %d bytes", len(s))
	}
	many := make([]int, 1<<20)
	for i := range many {
		many[i] = i
	}
	for _, kids := range [][]int{many, make([]int, 1<<20), many[1:], many[:400]} {
		l := []api.Node{a, {Kind: 11, Kids: kids}}
		if node.Right(l) || node.Deep(l) != 0 {
			t.Errorf("Right of a node of %d kids", len(kids))
		}
	}
	if l, e := node.Join(11, "", make([][]api.Node, 1<<20)); len(l) != 0 || e != api.ErrNode {
		t.Errorf("Join of many that are none: %d, %d", len(l), e)
	}
}

// lists calls do with each list of n nodes, each one of some.
func lists(n int, some []api.Node, l []api.Node, do func([]api.Node)) {
	if n == 0 {
		do(l)
		return
	}
	for _, x := range some {
		lists(n-1, some, append(l[:len(l):len(l)], x), do)
	}
}

// P7.1, P7.2: all short lists of some nodes, right or not.
func TestAllShort(t *testing.T) {
	var all, few, leaves []api.Node
	kids := [][]int{nil, {0}, {1}, {2}, {0, 1}, {1, 0}, {0, 2}, {1, 2}, {0, 0}, {-1}, {0, 1, 2}}
	for _, k := range kids {
		for kind := range 16 {
			all = append(all, api.Node{Kind: kind, Kids: k}, api.Node{Kind: kind, Kids: k, Text: "a"})
		}
		for _, kind := range []int{3, 5, 6, 11} {
			few = append(few, api.Node{Kind: kind, Kids: k, Text: map[int]string{3: "a"}[kind]})
		}
		kind, text := 11, ""
		if len(k) == 0 {
			kind, text = 3, "b"
		}
		leaves = append(leaves, api.Node{Kind: kind, Kids: k, Text: text})
	}
	do := func(l []api.Node) { check(t, l) }
	lists(1, all, nil, do)
	lists(2, append(few, all[:32]...), nil, do)
	lists(3, few[:16], nil, do)
	lists(4, leaves, nil, do)
	lists(3, leaves, []api.Node{{Kind: 3, Text: "c"}, {Kind: 1, Text: "0"}}, do)
}

// dice are numbers that look like chance, and are the same in every run.
type dice struct{ state uint32 }

func (d *dice) roll(n int) int {
	d.state = d.state*1664525 + 1013904223
	return int(d.state>>8) % n
}

// named is a node of a kind that may have so many kids.
func (d *dice) named(kids []int) api.Node {
	for {
		x := api.Node{Kind: d.roll(16), Text: []string{"", "a", "+", "1 2", "⍵", "(%:)"}[d.roll(6)], Kids: kids}
		if formed(x.Kind, len(kids), x.Text) {
			return x
		}
	}
}

// scattered is a tree of n nodes, each the kid of any one behind it.
func (d *dice) scattered(n int) []api.Node {
	kids := make([][]int, n)
	for at := range n - 1 {
		owner := at + 1 + d.roll(min(n-at-1, 1+d.roll(6)))
		kids[owner] = append(kids[owner], at)
	}
	var l []api.Node
	for at := range n {
		l = append(l, d.named(kids[at]))
	}
	return l
}

// spoilt is a copy of a tree in which something is other than it was.
func (d *dice) spoilt(l []api.Node) []api.Node {
	l = moved(l, 0)
	x := &l[d.roll(len(l))]
	switch d.roll(6) {
	case 0:
		x.Kind = d.roll(16)
	case 1:
		x.Text = []string{"", "x"}[d.roll(2)]
	case 2:
		x.Kids = append(x.Kids, d.roll(len(l)))
	case 3:
		at := d.roll(len(l))
		l = slices.Delete(l, at, at+1)
	case 4:
		l[0], *x = *x, l[0]
	case 5:
		if n := len(x.Kids); n > 0 {
			x.Kids[d.roll(n)] += d.roll(3) - 1
		}
	}
	return l
}

// P7.1, P7.2: greater trees, nodes of each standing anywhere, and what they are
// with something else in them.
func TestScattered(t *testing.T) {
	d, odd := &dice{7}, 0
	for round := range 3000 {
		l := d.scattered(1 + d.roll(12) + round/100)
		if !modelRight(l) {
			t.Fatalf("the test's tree is none: %v", l)
		}
		check(t, l)
		check(t, d.spoilt(l))
		if _, ok := modelKid(l, 0); !ok {
			odd++
		}
	}
	if odd < 500 {
		t.Errorf("only %d trees were odd", odd)
	}
}

// grown is a tree that is joined of others, held against the models.
func (d *dice) grown(t *testing.T, room int) []api.Node {
	t.Helper()
	var kids [][]api.Node
	for range d.roll(room + 1) {
		kids = append(kids, d.grown(t, room-1))
	}
	x := d.named(make([]int, len(kids)))
	l := join(t, x.Kind, x.Text, kids...)
	// P7.3: its kids are those that were.
	for n, want := range kids {
		if k, e := node.Kid(l, n); !node.Same(k, want) || e != api.OK {
			t.Fatalf("Kid %d of %v: %v, %d, not %v", n, l, k, e, want)
		}
	}
	checkKid(t, l, len(kids), nil, false)
	checkKid(t, l, -1, nil, false)
	return l
}

// P7.2, P7.3: trees that are joined; those that show the same are the same.
func TestGrown(t *testing.T) {
	d, shown, twice := &dice{11}, map[string][]api.Node{}, 0
	for range 2000 {
		l := d.grown(t, d.roll(4))
		check(t, l)
		s := node.Show(l)
		if other, ok := shown[s]; ok {
			twice++
			if !node.Same(l, other) {
				t.Fatalf("%v, %v both show %s", l, other, s)
			}
		}
		shown[s] = l
	}
	if twice < 100 || len(shown) < 500 {
		t.Errorf("%d shows, %d of them twice", len(shown), twice)
	}
}

// P7.3: texts that look like shows don't show the same.
func TestLikeShows(t *testing.T) {
	one := join(t, 8, "a", leaf(t, 1, "1"))
	for _, l := range [][]api.Node{
		leaf(t, 3, "a 1:1"), leaf(t, 3, "(8:a 1:1)"), join(t, 8, "a 1:1", leaf(t, 1, "1")), join(t, 8, "a", leaf(t, 1, "1)")), join(t, 8, "a%20", leaf(t, 1, "1")),
		join(t, 8, "a ", leaf(t, 1, "1")), join(t, 8, "a", leaf(t, 1, "%31")), join(t, 8, "a", leaf(t, 13, "1")), join(t, 10, "a", leaf(t, 1, "1")),
	} {
		if node.Show(l) == node.Show(one) || node.Same(l, one) {
			t.Errorf("%v shows %s", l, node.Show(l))
		}
	}
	if node.Show(leaf(t, 3, "a b")) == node.Show(leaf(t, 3, "a%20b")) {
		t.Error("a blank shows like what it is written as")
	}
}

// R3: nil and empty lists are one.
func TestEmpty(t *testing.T) {
	for _, l := range [][]api.Node{nil, {}, chain(3)[:0]} {
		check(t, l)
		join(t, 5, "", l)
		if !node.Same(l, nil) || !node.Same(nil, l) {
			t.Errorf("Same of nothing: %v", l)
		}
	}
	for _, kids := range [][][]api.Node{nil, {}} {
		if l, e := node.Join(3, "a", kids); !equal(l, chain(1)) || e != api.OK {
			t.Errorf("Join of nothing: %v, %d", l, e)
		}
	}
	check(t, []api.Node{{Kind: 3, Text: "a", Kids: []int{}}, {Kind: 5, Kids: []int{0}}})
	check(t, []api.Node{{Kind: 5, Kids: []int{}}})
}

// worn writes over all that a tree's lists have, their spare room too.
func worn(l []api.Node) {
	for _, x := range l {
		for i := range x.Kids[:cap(x.Kids)] {
			x.Kids[:cap(x.Kids)][i] = 99
		}
	}
	for i := range l[:cap(l)] {
		l[:cap(l)][i] = api.Node{Kind: 77, Text: "junk", Kids: []int{5}}
	}
}

// R3: what is handed in is not written into, nor its spare room.
func TestHandedIn(t *testing.T) {
	spare := func(l []api.Node) []api.Node {
		room := make([]api.Node, 0, len(l)+8)
		for _, x := range moved(l, 0) {
			x.Kids = append(x.Kids, 55, 56)[:len(x.Kids)]
			room = append(room, x)
		}
		return append(room, api.Node{Kind: 44}, api.Node{Kind: 45})
	}
	l := spare(plus(t))
	kids := [][]api.Node{l[:4], l[:1], l[:2], l[2:3], nil, l[:4]}
	kept := spelt(l)
	for range 2 {
		node.Right(l[:4])
		node.Show(l[:4])
		node.Deep(l[:4])
		node.Same(l[:4], l[:4])
		node.Kid(l[:4], 0)
		node.Kid(l[:4], 1)
		if got, e := node.Join(11, "", kids[:4]); len(got) != 9 || e != api.OK {
			t.Fatalf("Join: %v, %d", got, e)
		}
		node.Join(11, "", kids)
		if got := spelt(l); got != kept {
			t.Fatalf("what was handed in is %s, not %s", got, kept)
		}
		for i, n := range []int{4, 1, 2, 1, 0, 4} {
			if len(kids[i]) != n || n > 0 && n != 1 && !equal(kids[i], l[:n]) {
				t.Fatalf("the trees that were handed in are %v", kids)
			}
		}
		for _, x := range l[:4] {
			if tail := x.Kids[:cap(x.Kids)][len(x.Kids):]; len(tail) < 2 || tail[0] != 55 || tail[1] != 56 {
				t.Fatalf("the room behind kids is %v", tail)
			}
		}
	}
}

// R3: answers are new memory: none shares any with another one, nor with what
// was handed in, nor do lists within.
func TestNewMemory(t *testing.T) {
	l := plus(t)
	whole := join(t, 7, "", l, leaf(t, 9, "+"), l)
	want := spelt(whole)
	first, _ := node.Kid(whole, 0)
	third, _ := node.Kid(whole, 2)
	again := join(t, 7, "", l, leaf(t, 9, "+"), l)
	for i := range again {
		more := append(again[i].Kids, 99, 99, 99)
		if got := spelt(again); got != want {
			t.Errorf("behind an append to a node's kids, %v: %s, not %s", more, got, want)
		}
	}
	worn(l)
	worn(first)
	worn(again)
	if got := spelt(whole); got != want {
		t.Errorf("with others written over: %s, not %s", got, want)
	}
	worn(whole)
	if !equal(third, plus(t)) {
		t.Errorf("with the whole written over: %v", third)
	}
	for i := range third {
		room := third[len(third)-1-i].Kids
		for k := range room[:cap(room)] {
			room[:cap(room)][k] = 73 - i
		}
	}
	if !slices.Equal(third[1].Kids, []int{71}) || !slices.Equal(third[3].Kids, []int{73, 73}) {
		t.Errorf("kids share memory: %v", third)
	}
}

// R3: the bytes of answers are their own, too.
func TestNewBytes(t *testing.T) {
	text := strings.Repeat("long", 10)
	l := leaf(t, 3, text)
	set := join(t, 8, text, l)
	k, _ := node.Kid(set, 0)
	from := map[*byte]bool{unsafe.StringData(text): true}
	for _, x := range []api.Node{l[0], set[0], set[1], k[0]} {
		p := unsafe.StringData(x.Text)
		if x.Text != text || from[p] {
			t.Errorf("%v shares bytes with another one", x)
		}
		from[p] = true
	}
}
