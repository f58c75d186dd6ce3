package query

import (
	"fmt"
	"math"
	"slices"
	"strconv"
	"strings"
	"testing"

	"beagle/api"
	"beagle/token"
)

// The elements of the samples.
var (
	a    = alone('a')
	b    = alone('b')
	full = api.Class{^uint64(0), ^uint64(0), ^uint64(0), ^uint64(0)}
	none = api.Class{}
)

// alone is the class of one byte, laid into words, as api says.
func alone(x byte) api.Class {
	var element api.Class
	element[x/64] = 1 << (x % 64)
	return element
}

// upTo is the class of the bytes from first to last.
func upTo(first, last int) api.Class {
	var element api.Class
	for x := first; x <= last; x++ {
		element[x/64] |= 1 << (x % 64)
	}
	return element
}

func times(n int, element api.Class) []api.Class {
	return slices.Repeat([]api.Class{element}, n)
}

// find is a Find of those elements.
func find(k int, elements ...api.Class) api.Node {
	return api.Node{Kind: api.Find, Leaf: api.Leaf{P: elements, K: k}}
}

// lower is the small letter of a letter.
func lower(x byte) byte { return x + ('a' - 'A') }

func small(x byte) bool { return 'a' <= x && x <= 'z' }

func great(x byte) bool { return 'A' <= x && x <= 'Z' }

// row is the row of nodes of a short form: a small letter is a Find of that letter, a great one such a Find with a K of 1; & | ! are an And, an Or and a Not; > is a Shift with an N of 3; a 0 is a node of no Kind.
func row(form string) []api.Node {
	var l []api.Node
	for i := range len(form) {
		switch x := form[i]; {
		case small(x):
			l = append(l, find(0, alone(x)))
		case great(x):
			l = append(l, find(1, alone(lower(x))))
		case x == '>':
			l = append(l, api.Node{Kind: api.Shift, N: 3})
		default:
			l = append(l, api.Node{Kind: map[byte]int{'&': api.And, '|': api.Or, '!': api.Not, '0': 0}[x]})
		}
	}
	return l
}

// text is the text of a short form of a query: letters and shifts are as in a row, all others stand for themselves.
func text(form string) string {
	s := ""
	for i := range len(form) {
		switch x := form[i]; {
		case small(x):
			s += `"` + string(x) + `"`
		case great(x):
			s += `"` + string(lower(x)) + `"~1`
		case x == '>':
			s += ">3"
		default:
			s += string(x)
		}
	}
	return s
}

// copied is a row that shares nothing with l.
func copied(l []api.Node) []api.Node {
	l = slices.Clone(l)
	for i := range l {
		l[i].Leaf.P = slices.Clone(l[i].Leaf.P)
	}
	return l
}

// one tells whether two nodes are the same, field by field.
func one(x, y api.Node) bool {
	return x.Kind == y.Kind && x.N == y.N && x.Leaf.K == y.Leaf.K && slices.Equal(x.Leaf.P, y.Leaf.P)
}

func alike(x, y []api.Node) bool { return slices.EqualFunc(x, y, one) }

func sameLeaf(x, y api.Leaf) bool { return x.K == y.K && slices.Equal(x.P, y.P) }

// numbers are n numbers below most, always the same ones for one seed.
func numbers(seed, n, most int) []int {
	x := uint64(88172645463325252) + uint64(seed)*2654435761
	l := make([]int, n)
	for i := range l {
		x ^= x << 13
		x ^= x >> 7
		x ^= x << 17
		l[i] = int(x>>33) % most
	}
	return l
}

// every is each text of n bytes of some.
func every(n int, some string) []string {
	if n == 0 {
		return []string{""}
	}
	var texts []string
	for _, shorter := range every(n-1, some) {
		for i := range len(some) {
			texts = append(texts, shorter+some[i:i+1])
		}
	}
	return texts
}

// depthOf tells the depth of the tree by which l begins, and how many nodes it has; false, if l does not begin by one.
func depthOf(l []api.Node) (int, int, bool) {
	if len(l) == 0 || l[0].Kind < api.Find || l[0].Kind > api.Shift {
		return 0, 0, false
	}
	trees := map[int]int{api.And: 2, api.Or: 2, api.Not: 1, api.Shift: 1}[l[0].Kind]
	depth, size := 0, 1
	for range trees {
		d, n, is := depthOf(l[size:])
		if !is {
			return 0, 0, false
		}
		depth, size = max(depth, d), size+n
	}
	return depth + 1, size, true
}

// rightOf tells whether a node is right, by the chapter's words.
func rightOf(x api.Node) bool {
	if x.Kind == api.Find {
		return x.N == 0 && len(x.Leaf.P) >= 1 && len(x.Leaf.P) <= 64 && x.Leaf.K >= 0 && x.Leaf.K <= 64 && !slices.Contains(x.Leaf.P, none)
	}
	blank := len(x.Leaf.P) == 0 && x.Leaf.K == 0
	if x.Kind == api.Shift {
		return blank && x.N >= 0 && x.N <= 1000000
	}
	return blank && x.N == 0
}

// checkRow holds what is told of l against the chapter's words.
func checkRow(t *testing.T, l []api.Node) {
	t.Helper()
	depth, size, is := depthOf(l)
	if !is || size != len(l) {
		depth = 0
	}
	right := depth >= 1 && depth <= 16 && len(l) <= 64
	var leaves []api.Leaf
	longest := 0
	for _, x := range l {
		right = right && rightOf(x)
		if x.Kind == api.Find {
			leaves = append(leaves, x.Leaf)
			longest = max(longest, len(x.Leaf.P))
		}
	}
	checkTree(t, l, right, depth)
	if got := Leaves(l); !slices.EqualFunc(got, leaves, sameLeaf) {
		t.Errorf("P14.1: Leaves of %v are %v, not %v", l, got, leaves)
	}
	if got := Longest(l); got != longest {
		t.Errorf("P14.1: Longest of %v is %d, not %d", l, got, longest)
	}
	if !Same(l, l) || !Same(l, copied(l)) {
		t.Errorf("P14.1: Same of %v and itself is false", l)
	}
}

// checkTree holds whether l is right, and its depth, against what is asked; what is not Right has no text.
func checkTree(t *testing.T, l []api.Node, right bool, depth int) {
	t.Helper()
	if got := Depth(l); got != depth {
		t.Errorf("P14.1: Depth of %v is %d, not %d", l, got, depth)
	}
	if got := Right(l); got != right {
		t.Errorf("P14.1: Right of %v is %v, not %v", l, got, right)
	}
	if s, is := Print(l); is != right || !right && s != "" {
		t.Errorf("P14.3: Print of %v is %q, %v, not %v", l, s, is, right)
	}
}

// checkParse holds what Parse tells of s against the tree that is asked.
func checkParse(t *testing.T, s string, want []api.Node) {
	t.Helper()
	l, n, errno := Parse(s)
	if !alike(l, want) || n != len(s) || errno != api.OK {
		t.Errorf("P14.2: Parse of %q tells %v, %d, %d, not %v, %d, 0", s, l, n, errno, want, len(s))
	}
	if errno == api.OK && !Right(l) {
		t.Errorf("P14.4: what is parsed of %q is not Right: %v", s, l)
	}
}

// checkRefused holds what Parse tells of s against the place and the error that are asked, beside which there are no nodes.
func checkRefused(t *testing.T, s string, at int, want api.Errno) {
	t.Helper()
	l, n, errno := Parse(s)
	if len(l) != 0 || n != at || errno != want {
		t.Errorf("P14.2: Parse of %q tells %v, %d, %d, not none, %d, %d", s, l, n, errno, at, want)
	}
}

// checkForm is checkParse of the text of a short form and its row.
func checkForm(t *testing.T, query, tree string) {
	t.Helper()
	checkParse(t, text(query), row(tree))
}

// checkPrint holds the text of l against the one that is asked, and asks that it is parsed as l, if it is not too long.
func checkPrint(t *testing.T, l []api.Node, want string) {
	t.Helper()
	s, is := Print(l)
	if s != want || !is {
		t.Errorf("P14.3: Print of %v is %q, %v, not %q, true", l, s, is, want)
	}
	checkBack(t, l)
}

// checkBack asks that l, printed, is parsed as l; or refused, if its text is too long.
func checkBack(t *testing.T, l []api.Node) {
	t.Helper()
	s, is := Print(l)
	if !is {
		t.Fatalf("P14.4: %v has no text", l)
	}
	if len(s) > 1000 {
		checkRefused(t, s, 1000, api.ErrTokenLong)
		return
	}
	got, n, errno := Parse(s)
	if !alike(got, l) || n != len(s) || errno != api.OK {
		t.Errorf("P14.4: Parse of Print of %v, %q, is %v, %d, %d", l, s, got, n, errno)
	}
}

// many is a form, that many times in a row.
func many(n int, form string) string { return strings.Repeat(form, n) }

// TestRowsOfNoNodes is of P14.1.
func TestRowsOfNoNodes(t *testing.T) {
	for _, l := range [][]api.Node{nil, {}, make([]api.Node, 0, 3)} {
		checkTree(t, l, false, 0)
		if x := Leaves(l); len(x) != 0 {
			t.Errorf("P14.1: Leaves of no nodes are %v", x)
		}
		if n := Longest(l); n != 0 {
			t.Errorf("P14.1: Longest of no nodes is %d", n)
		}
		for _, other := range [][]api.Node{nil, {}} {
			if !Same(l, other) || !Same(other, l) {
				t.Error("P14.1: Same of no nodes and no nodes is false")
			}
		}
		if Same(l, row("a")) || Same(row("a"), l) || Same(l, row("0")) || Same(row("0"), l) {
			t.Error("P14.1: Same of no nodes and one is true")
		}
	}
}

func TestRowsByHand(t *testing.T) {
	for _, x := range []struct {
		form  string
		right bool
		depth int
	}{
		{"a", true, 1},
		{"A", true, 1},
		{"&", false, 0},
		{"|", false, 0},
		{"!", false, 0},
		{">", false, 0},
		{"0", false, 0},
		{"!a", true, 2},
		{">a", true, 2},
		{"&ab", true, 2},
		{"|ab", true, 2},
		{"aa", false, 0},
		{"a!", false, 0},
		{"&a", false, 0},
		{"|a", false, 0},
		{"&a!", false, 0},
		{"&!a", false, 0},
		{"|>a", false, 0},
		{"&abc", false, 0},
		{"!ab", false, 0},
		{">ab", false, 0},
		{"a&bc", false, 0},
		{"!!!", false, 0},
		{"!0", false, 0},
		{"0a", false, 0},
		{"a0", false, 0},
		{"&a0", false, 0},
		{"&0a", false, 0},
		{"|&a!bC", true, 4},
		{"|a&b>!c", true, 5},
		{"&|ab|cd", true, 3},
		{"!>!>a", true, 5},
		{"&&&abcd", true, 4},
		{"&a&b&cd", true, 4},
		{"|!!!ab", true, 5},
		{"|a!!!b", true, 5},
	} {
		checkTree(t, row(x.form), x.right, x.depth)
		checkRow(t, row(x.form))
	}
}

func TestRowsOfEachKind(t *testing.T) {
	kinds := []int{api.Find, api.And, api.Or, api.Not, api.Shift, 0, -1, api.Shift + 1, 7, 257, -5, math.MinInt, math.MaxInt}
	for _, kind := range kinds {
		for behind := range 4 {
			l := append([]api.Node{{Kind: kind}}, row("abc"[:behind])...)
			if kind == api.Find {
				l[0].Leaf = row("a")[0].Leaf
			}
			checkRow(t, l)
			trees := map[int]int{api.Find: 1, api.Not: 2, api.Shift: 2, api.And: 3, api.Or: 3}[kind]
			checkTree(t, l, behind+1 == trees, map[bool]int{true: min(trees, 2)}[behind+1 == trees])
		}
		// Ahead of, behind and within what is a tree.
		checkRow(t, append(row("a"), api.Node{Kind: kind}))
		checkRow(t, append(row("|a"), api.Node{Kind: kind}))
		checkRow(t, append(row("!"), api.Node{Kind: kind}))
		checkRow(t, append(append(row("&"), api.Node{Kind: kind}), row("a")...))
		if x := Leaves([]api.Node{{Kind: kind, Leaf: api.Leaf{P: []api.Class{a, b}, K: 2}}}); (len(x) == 1) != (kind == api.Find) || len(x) > 1 {
			t.Errorf("P14.1: Leaves of a node of Kind %d are %v", kind, x)
		}
		if n := Longest([]api.Node{{Kind: kind, Leaf: api.Leaf{P: []api.Class{a, b}}}}); (n == 2) != (kind == api.Find) || n != 0 && n != 2 {
			t.Errorf("P14.1: Longest of a node of Kind %d is %d", kind, n)
		}
	}
}

func TestRowsOfAllShortForms(t *testing.T) {
	for n := range 8 {
		for _, form := range every(n, "a&!0") {
			checkRow(t, row(form))
		}
	}
	for n := range 6 {
		for _, form := range every(n, "aB&|!>") {
			checkRow(t, row(form))
		}
	}
}

func TestRowsOfManyNodes(t *testing.T) {
	for seed := range 3000 {
		form := ""
		for _, i := range numbers(seed, 1+seed%90, 9) {
			form += "aBcDe&|!>"[i : i+1]
		}
		checkRow(t, row(form))
		l := treeRow(seed, 1+seed%70)
		checkRow(t, l)
		checkRow(t, l[1:])
		checkRow(t, l[:len(l)-1])
		checkRow(t, append(l, row("a")...))
	}
}

// bare is the nodes of each Kind but Find, with trees behind.
func bare() map[string][]api.Node {
	return map[string][]api.Node{"And": row("&ab"), "Or": row("|ab"), "Not": row("!a"), "Shift": row(">a")}
}

func TestNodesThatHaveWhatTheirKindHasNot(t *testing.T) {
	for name, l := range bare() {
		for _, n := range []int{1, -1, 3, 64, 1000000, math.MinInt, math.MaxInt} {
			x := copied(l)
			x[0].N = n
			checkTree(t, x, name == "Shift" && n >= 0 && n <= 1000000, 2)
			x = copied(l)
			x[0].Leaf.K = n
			checkTree(t, x, false, 2)
		}
		for _, elements := range [][]api.Class{{a}, {none}, {full}, {a, b}, times(65, a)} {
			x := copied(l)
			x[0].Leaf.P = elements
			checkTree(t, x, false, 2)
			if y := Leaves(x); len(y) != len(l)-1 {
				t.Errorf("P14.1: Leaves of %v are %v", x, y)
			}
			if Longest(x) != 1 {
				t.Errorf("P14.1: Longest of %v is %d", x, Longest(x))
			}
		}
		x := copied(l)
		x[0].Leaf.P = []api.Class{}
		checkTree(t, x, true, 2)
		// A node that is not right is met wherever it stands.
		x = append(row("!"), copied(l)...)
		x[1].Leaf.K = 1
		checkTree(t, x, false, 3)
		x = append(row("&a"), copied(l)...)
		x[2].Leaf.K = 1
		checkTree(t, x, false, 3)
	}
	for _, n := range []int{1, -1, 3, 1000000, math.MinInt, math.MaxInt} {
		x := row("a")
		x[0].N = n
		checkTree(t, x, false, 1)
		x = row("|ab")
		x[2].N = n
		checkTree(t, x, false, 2)
	}
}

func TestFindsAndTheirLeaves(t *testing.T) {
	for _, x := range []struct {
		l     api.Node
		right bool
	}{
		{find(0, a), true},
		{find(0, full), true},
		{find(0, a, full, b), true},
		{find(0, times(63, a)...), true},
		{find(0, times(64, a)...), true},
		{find(0, times(65, a)...), false},
		{find(0, times(128, full)...), false},
		{find(64, times(64, full)...), true},
		{find(0), false},
		{find(1), false},
		{find(0, none), false},
		{find(0, a, none), false},
		{find(0, none, a), false},
		{find(0, a, none, b), false},
		{find(1, a), true},
		{find(63, a), true},
		{find(64, a), true},
		{find(65, a), false},
		{find(-1, a), false},
		{find(math.MinInt, a), false},
		{find(math.MaxInt, a), false},
	} {
		checkTree(t, []api.Node{x.l}, x.right, 1)
		checkTree(t, append(row("!"), x.l), x.right, 2)
		checkTree(t, append(row(">|a"), x.l), x.right, 3)
		checkTree(t, append(append(row("&"), x.l), row("a")...), x.right, 2)
		checkRow(t, append(row("|a"), x.l))
	}
}

func TestShiftsAndTheirNumbers(t *testing.T) {
	for n, right := range map[int]bool{0: true, 1: true, 9: true, 65: true, 999999: true, 1000000: true, 1000001: false, -1: false, math.MinInt: false, math.MaxInt: false} {
		l := append([]api.Node{{Kind: api.Shift, N: n}}, row("a")...)
		checkTree(t, l, right, 2)
		checkTree(t, append(row("!"), l...), right, 3)
		checkTree(t, append(row("&a"), l...), right, 3)
	}
}

// even is the form of a tree of 2^n Finds that stand as high as can be.
func even(n int) string {
	if n == 0 {
		return "a"
	}
	return "|" + even(n-1) + even(n-1)
}

func TestAsManyNodesAsCanBe(t *testing.T) {
	// 63 nodes, 6 deep.
	l := even(5)
	checkTree(t, row(l), true, 6)
	checkTree(t, row("!"+l), true, 7)
	checkTree(t, row(">"+l), true, 7)
	checkTree(t, row("!!"+l), false, 8)
	checkTree(t, row("&a"+l), false, 7)
	checkTree(t, row("&"+l+"a"), false, 7)
	checkTree(t, row(even(6)), false, 7)
	// The one that is too many stands at the end.
	checkTree(t, row("|"+even(4)+"|"+even(4)[1:16]+even(3)[:14]+"!a"), true, 7)
	checkTree(t, row("|"+even(4)+"|"+even(4)[1:16]+even(3)[:14]+"!!a"), false, 8)
}

func TestAsDeepAsCanBe(t *testing.T) {
	for n, right := range map[int]bool{14: true, 15: true, 16: false, 17: false, 31: false, 32: false, 40: false} {
		checkTree(t, row(many(n, "!")+"a"), right, n+1)
		checkTree(t, row(many(n, ">")+"a"), right, n+1)
		for _, kind := range []string{"&", "|"} {
			// To the left, to the right, and by Nots on either side.
			checkTree(t, row(many(n, kind)+"a"+many(n, "b")), right, n+1)
			checkTree(t, row(many(n, kind+"a")+"b"), right, n+1)
			checkTree(t, row(kind+many(n-1, "!")+"ab"), right, n+1)
			checkTree(t, row(kind+"a"+many(n-1, "!")+"b"), right, n+1)
		}
	}
}

func TestRowsAsLongAsTheyAreDeep(t *testing.T) {
	const n = 300000
	blank := func(n, kind int) []api.Node { return slices.Repeat([]api.Node{{Kind: kind}}, n) }
	checkTree(t, append(blank(n, api.Not), row("a")...), false, n+1)
	checkTree(t, append(blank(n, api.Shift), row("a")...), false, n+1)
	checkTree(t, blank(n, api.Not), false, 0)
	checkTree(t, blank(n, api.Find), false, 0)
	checkTree(t, blank(n, 0), false, 0)
	checkTree(t, append(blank(n, api.And), blank(n+1, api.Find)...), false, n+1)
	checkTree(t, append(blank(n, api.And), blank(n, api.Find)...), false, 0)
	checkTree(t, append(blank(n, api.Or), blank(n+2, api.Find)...), false, 0)
	checkTree(t, append(slices.Repeat([]api.Node{{Kind: api.Or}, {Kind: api.Find}}, n), row("a")...), false, n+1)
}

func TestLeaves(t *testing.T) {
	x, y, z := find(1, a, b, full), find(0, b), find(64, times(64, a)...)
	for _, c := range []struct {
		l       []api.Node
		leaves  []api.Leaf
		longest int
	}{
		{[]api.Node{x}, []api.Leaf{x.Leaf}, 3},
		{slices.Concat(row("|"), []api.Node{x}, row("!"), []api.Node{y}), []api.Leaf{x.Leaf, y.Leaf}, 3},
		{slices.Concat(row("|"), []api.Node{y}, row(">"), []api.Node{x}), []api.Leaf{y.Leaf, x.Leaf}, 3},
		{slices.Concat(row("&&"), []api.Node{y, z, y}), []api.Leaf{y.Leaf, z.Leaf, y.Leaf}, 64},
		{[]api.Node{x, x}, []api.Leaf{x.Leaf, x.Leaf}, 3},
		{row("!"), nil, 0},
		{row("0&|"), nil, 0},
		// Of rows that are no tree, and of Leaves that are not right, too.
		{[]api.Node{z, y, x, {}}, []api.Leaf{z.Leaf, y.Leaf, x.Leaf}, 64},
		{[]api.Node{find(0), find(-7, none)}, []api.Leaf{{}, {P: []api.Class{none}, K: -7}}, 1},
		{[]api.Node{find(65, times(100, a)...), x}, []api.Leaf{{P: times(100, a), K: 65}, x.Leaf}, 100},
		{[]api.Node{find(0)}, []api.Leaf{{}}, 0},
	} {
		if got := Leaves(c.l); !slices.EqualFunc(got, c.leaves, sameLeaf) {
			t.Errorf("P14.1: Leaves of %v are %v, not %v", c.l, got, c.leaves)
		}
		if got := Longest(c.l); got != c.longest {
			t.Errorf("P14.1: Longest of %v is %d, not %d", c.l, got, c.longest)
		}
	}
}

// changed is l, with something changed in one place each.
func changed(l []api.Node) [][]api.Node {
	var rows [][]api.Node
	for i := range l {
		edit := func(f func(x *api.Node)) {
			x := copied(l)
			f(&x[i])
			rows = append(rows, x)
		}
		edit(func(x *api.Node) { x.Kind++ })
		edit(func(x *api.Node) { x.Kind = -7 })
		edit(func(x *api.Node) { x.N++ })
		edit(func(x *api.Node) { x.N = -1 - x.N })
		edit(func(x *api.Node) { x.Leaf.K++ })
		edit(func(x *api.Node) { x.Leaf.K = math.MaxInt })
		edit(func(x *api.Node) { x.Leaf.P = append(x.Leaf.P, a) })
		edit(func(x *api.Node) { x.Leaf.P = append(x.Leaf.P, none) })
		for j := range l[i].Leaf.P {
			edit(func(x *api.Node) { x.Leaf.P = x.Leaf.P[:j] })
			for bit := range 256 {
				edit(func(x *api.Node) { x.Leaf.P[j][bit/64] ^= 1 << (bit % 64) })
			}
		}
		rows = append(rows, l[:i], slices.Delete(copied(l), i, i+1), slices.Insert(copied(l), i, api.Node{}))
	}
	return append(rows, append(copied(l), api.Node{}), append(copied(l), row("a")...))
}

func TestSame(t *testing.T) {
	for _, l := range [][]api.Node{row("a"), row("|&ab!C"), row(">A"), {find(3, a, full, upTo(3, 200))}, {{Kind: 9, N: -2, Leaf: api.Leaf{P: []api.Class{none}, K: 5}}}, row("000")} {
		if !Same(l, copied(l)) {
			t.Errorf("P14.1: Same of %v and a copy is false", l)
		}
		for _, x := range changed(l) {
			if Same(l, x) || Same(x, l) {
				t.Errorf("P14.1: Same of %v and %v is true", l, x)
			}
			if !Same(x, copied(x)) {
				t.Errorf("P14.1: Same of %v and a copy is false", x)
			}
		}
	}
	// An empty list is as good as none.
	if !Same([]api.Node{{Leaf: api.Leaf{P: []api.Class{}}}}, []api.Node{{}}) {
		t.Error("P14.1: Same tells no elements and an empty row of them apart")
	}
	if Same(row("&ab"), row("&ba")) || Same(row("|ab"), row("&ab")) || Same(row("a"), row("A")) {
		t.Error("P14.1: Same of trees that differ is true")
	}
}

func TestParseOfWhatLexRefuses(t *testing.T) {
	for _, s := range []string{
		"x", `"a" x`, ")x", "( \x00", `"a" "b" #`, "\t", "é", "!x",
		`"`, `"a`, `( "`, `("a" & "b`, `"[`, `"[a`, `"[a-`, `"a\`,
		`"\q"`, `"\x0"`, `"\x0G"`, `) "\z"`,
		`"[]"`, `"[^]"`, `"[b-a]"`, `"[^\x00-\xff]"`, `"a" "[a--]"`, `"[[]"`,
		">", "~", `"a"~`, `"a"~01`, `>00"a"`, `>1000001"a"`, `"a"~1000001`, `>-1"a"`, `>3x`, `~ 1`, `> 3"a"`,
		`""`, `"a" | ""`, `"` + many(65, "a") + `"`, `)"` + many(70, "?") + `"`,
		"\"\x80\"", "\"a\n\"",
		many(1001, "x"), many(1001, " "), many(1001, "("), many(2000, `"a"|`), `"a"` + many(998, " "),
	} {
		_, at, errno := token.Lex(s)
		if errno == api.OK {
			t.Fatalf("Lex of %q is refused nowhere", s)
		}
		checkRefused(t, s, at, errno)
	}
	// By hand, some of them.
	checkRefused(t, `) x`, 2, api.ErrTokenChar)
	checkRefused(t, `"a" "b" "`, 9, api.ErrTokenEnd)
	checkRefused(t, `"a"~65 >01`, 8, api.ErrTokenNumber)
	checkRefused(t, `("\q"`, 2, api.ErrTokenEscape)
	checkRefused(t, `| "[]"`, 3, api.ErrTokenClass)
	checkRefused(t, `~1 ""`, 4, api.ErrTokenLong)
	checkRefused(t, many(1001, "!"), 1000, api.ErrTokenLong)
	checkRefused(t, many(99, `"a"|`)+" x", 397, api.ErrTokenChar)
}

// lexeme is the text of each token that the samples have.
var lexemes = []string{"(", ")", "&", "|", "!", ">3", "~1", `"a"`, "~65"}

func TestParseOfNothing(t *testing.T) {
	checkRefused(t, "", 0, api.ErrQueryForm)
	for n := range 20 {
		checkRefused(t, many(n, " "), n, api.ErrQueryForm)
	}
	checkRefused(t, many(1000, " "), 1000, api.ErrQueryForm)
}

func TestParseOfOneToken(t *testing.T) {
	for s, at := range map[string]int{"(": 1, ")": 0, "&": 0, "|": 0, "!": 1, ">3": 2, ">0": 2, "~1": 0, "~0": 0, "~65": 0} {
		checkRefused(t, s, at, api.ErrQueryForm)
		checkRefused(t, "  "+s, at+2, api.ErrQueryForm)
		if at == len(s) {
			checkRefused(t, s+"   ", at+3, api.ErrQueryForm)
		} else {
			checkRefused(t, s+"   ", at, api.ErrQueryForm)
		}
	}
	checkForm(t, "a", "a")
	checkForm(t, "  a   ", "a")
}

func TestParseOfTwoTokens(t *testing.T) {
	for _, first := range lexemes {
		for _, second := range lexemes {
			s, at := first+" "+second, 0
			switch first {
			case `"a"`:
				at = len(first) + 1
			case "(", "!", ">3":
				at = len(first) + 1
				if second == "(" || second == "!" || second == ">3" || second == `"a"` {
					at = len(s)
				}
			}
			switch {
			case s == `! "a"`:
				checkParse(t, s, row("!a"))
			case s == `>3 "a"`:
				checkParse(t, s, row(">a"))
			case s == `"a" ~1`:
				checkParse(t, s, row("A"))
			case first == `"a"` && (second == "&" || second == "|"):
				checkRefused(t, s, len(s), api.ErrQueryForm)
			default:
				checkRefused(t, s, at, api.ErrQueryForm)
			}
		}
	}
}

func TestParseOfRows(t *testing.T) {
	checkForm(t, "a|b", "|ab")
	checkForm(t, "a|b|c", "||abc")
	checkForm(t, "a|b|c|d", "|||abcd")
	checkForm(t, "a&b", "&ab")
	checkForm(t, "a&b&c", "&&abc")
	checkForm(t, "a&b&c&d", "&&&abcd")
	checkForm(t, "a&b|c", "|&abc")
	checkForm(t, "a|b&c", "|a&bc")
	checkForm(t, "a|b&c|d", "||a&bcd")
	checkForm(t, "a&b|c&d", "|&ab&cd")
	checkForm(t, "a&b&c|d&e&f|g", "||&&abc&&defg")
	checkForm(t, "a|b|c&d&e|f", "|||ab&&cdef")
	checkForm(t, "A|B&C", "|A&BC")
	checkForm(t, " a  &b |  c ", "|&abc")
	for n := 1; n <= 15; n++ {
		checkForm(t, "a"+many(n, "|b"), many(n, "|")+"a"+many(n, "b"))
		checkForm(t, "a"+many(n, "&b"), many(n, "&")+"a"+many(n, "b"))
	}
}

func TestParseOfNotsAndShifts(t *testing.T) {
	checkForm(t, "!a", "!a")
	checkForm(t, "!!a", "!!a")
	checkForm(t, "!!!!A", "!!!!A")
	checkForm(t, ">a", ">a")
	checkForm(t, ">>>a", ">>>a")
	checkForm(t, "!>!>!a", "!>!>!a")
	checkForm(t, "! > ! a", "!>!a")
	checkForm(t, "!(a)", "!a")
	checkForm(t, ">(a)", ">a")
	checkForm(t, "!(!(!(a)))", "!!!a")
	checkForm(t, "!>(a|b)", "!>|ab")
	checkForm(t, ">!(a&b)", ">!&ab")
	// They are ahead of an item, not of a part.
	checkForm(t, "!a&b", "&!ab")
	checkForm(t, "!a|b", "|!ab")
	checkForm(t, ">a&b", "&>ab")
	checkForm(t, "a&!b|!c", "|&a!b!c")
	checkForm(t, "a|>b&!>c", "|a&>b!>c")
	checkForm(t, "!!(a|b)&c", "&!!|abc")
	for _, n := range []int{0, 1, 7, 10, 65, 100, 99999, 999999, 1000000} {
		shift := []api.Node{{Kind: api.Shift, N: n}}
		checkParse(t, ">"+strconv.Itoa(n)+`"a"`, append(shift, row("a")...))
		checkParse(t, "!>"+strconv.Itoa(n)+` ( "a"|"b")`, slices.Concat(row("!"), shift, row("|ab")))
	}
	checkForm(t, many(15, "!")+"a", many(15, "!")+"a")
	checkForm(t, many(15, ">")+"a", many(15, ">")+"a")
	checkRefused(t, text("a!b"), 3, api.ErrQueryForm)
	checkRefused(t, text("a>b"), 3, api.ErrQueryForm)
	checkRefused(t, text("a & !"), 7, api.ErrQueryForm)
	checkRefused(t, text("!&a"), 1, api.ErrQueryForm)
	checkRefused(t, text("!|a"), 1, api.ErrQueryForm)
	checkRefused(t, text(">)a"), 2, api.ErrQueryForm)
}

func TestParseOfBrackets(t *testing.T) {
	checkForm(t, "(a)", "a")
	checkForm(t, "((a))", "a")
	checkForm(t, "(a|b)", "|ab")
	checkForm(t, "((a|b&c))", "|a&bc")
	checkForm(t, "((A))", "A")
	checkForm(t, "(a|b)&c", "&|abc")
	checkForm(t, "a&(b|c)", "&a|bc")
	checkForm(t, "a|(b|c)", "|a|bc")
	checkForm(t, "(a|b)|c", "||abc")
	checkForm(t, "a&(b&c)", "&a&bc")
	checkForm(t, "(a&b)&c", "&&abc")
	checkForm(t, "a&(b&c)&d", "&&a&bcd")
	checkForm(t, "(a|b)&(c|d)|(e&f)", "|&|ab|cd&ef")
	checkForm(t, "((a)&((b)))", "&ab")
	checkForm(t, " ( ( a ) & ( b ) ) ", "&ab")
	// As many as a text can have.
	checkForm(t, many(498, "(")+"a"+many(498, ")"), "a")
	for s, at := range map[string]int{
		"()": 1, "a&()": 5, "( )": 2, "(())": 2, "!()": 2, "()a": 1,
		"(a": 4, "((a)": 6, "(a ": 5, "a&(b|c": 12, "(a&": 5, "(": 1, "((": 2,
		"a)": 3, "(a))": 5, "(a)) ": 5, ")a": 0, "a&b)": 7, ")(": 0, ")": 0,
		"(a|)": 5, "(a&)": 5, "(|a)": 1, "(!)": 2, "a(b)": 3, "(a)(b)": 5, "(a)b": 5, "a|(b)c": 9, "(a)~1": 5, "(a)~65": 5,
	} {
		checkRefused(t, text(s), at, api.ErrQueryForm)
	}
	checkRefused(t, many(1000, "("), 1000, api.ErrQueryForm)
	checkRefused(t, text(many(498, "(")+"a"+many(497, ")")), 998, api.ErrQueryForm)
	checkRefused(t, text(many(498, "(")+"a"+many(499, ")")), 999, api.ErrQueryForm)
	checkRefused(t, many(1000, ")"), 0, api.ErrQueryForm)
}

func TestParseOfFuzzes(t *testing.T) {
	for n := range 65 {
		s := "~" + strconv.Itoa(n)
		checkParse(t, `"a"`+s, []api.Node{find(n, a)})
		checkParse(t, `"ab" `+s, []api.Node{find(n, a, b)})
		checkParse(t, `!"a"`+s+` & ("b" `+s+`)`, []api.Node{{Kind: api.And}, {Kind: api.Not}, find(n, a), find(n, b)})
	}
	// As many as the elements, and one more.
	for _, n := range []int{1, 2, 63, 64} {
		for k := n; k <= min(n+1, 64); k++ {
			checkParse(t, `"`+many(n, "b")+`"~`+strconv.Itoa(k), []api.Node{find(k, times(n, b)...)})
		}
	}
	for _, n := range []int{65, 66, 100, 640, 999999, 1000000} {
		s := "~" + strconv.Itoa(n)
		checkRefused(t, `"a"`+s, 3, api.ErrQueryForm)
		checkRefused(t, `"a"  `+s+"  ", 5, api.ErrQueryForm)
		checkRefused(t, `!("ab" | "a"`+s+")", 12, api.ErrQueryForm)
		checkRefused(t, `"`+many(64, "a")+`"`+s, 66, api.ErrQueryForm)
	}
	checkRefused(t, `"a"~`, 4, api.ErrTokenNumber)
	checkRefused(t, `"a"~ 1`, 4, api.ErrTokenNumber)
	checkRefused(t, `"a"~1000001`, 4, api.ErrTokenNumber)
	for s, at := range map[string]int{
		`"a"~1~1`: 5, `"a"~1 ~1`: 6, `"a"~0~0`: 5, `"a"~1~65`: 5, `"a"~65~1`: 3, `~1"a"`: 0, `!~1"a"`: 1, `("a")~1`: 5, `"a"&~1`: 4, `>3~1"a"`: 2, `(~1)`: 1, `"a"~1"b"`: 5, `"a"|"b"~2~3`: 9,
	} {
		checkRefused(t, s, at, api.ErrQueryForm)
	}
}

func TestParseOfWhatLacks(t *testing.T) {
	for _, s := range []string{"a&", "a|", "!", ">", "(a", "a&b|", "a|b&", "(a|b", "a&!", "a|>", "a&(", "(", "!(", "((a)", "a&(b|(c)", "!!!", "A&"} {
		for blanks := range 4 {
			end := text(s) + many(blanks, " ")
			checkRefused(t, end, len(end), api.ErrQueryForm)
		}
	}
}

func TestParseTellsTheFirstToken(t *testing.T) {
	// What can't go on twice is told once, at the first.
	for s, at := range map[string]int{
		`"a" "b"`: 4, `"a" "b" "c"`: 4, `"a" "b" )`: 4, `"a" "b"~65`: 4, `"a"~65 "b"`: 3, `"a"~65 )`: 3, `) "a"~65`: 0, `"a" & & "b" |`: 6, `"a" | & "b"`: 6, `("a" "b"`: 5, `"a" ) ( `: 4, `!) "a" "b"`: 1, `"a""b"`: 3, `"a"~1"b"`: 5,
	} {
		checkRefused(t, s, at, api.ErrQueryForm)
	}
	// Even where there are too many nodes, or it is too deep.
	for _, s := range []string{text("a" + many(40, "&b")), text("a" + many(40, "|b")), text(many(70, "!") + "a"), text(many(70, ">") + "a"), text(many(20, "!") + "a"), text(many(40, "a|(b&") + "a" + many(40, ")"))} {
		checkRefused(t, s+`)`, len(s), api.ErrQueryForm)
		checkRefused(t, s+` "c"`, len(s)+1, api.ErrQueryForm)
		checkRefused(t, s+`&`, len(s)+1, api.ErrQueryForm)
		checkRefused(t, s+`| "a" ~65`, len(s)+6, api.ErrQueryForm)
		checkRefused(t, "("+s, len(s)+1, api.ErrQueryForm)
		checkRefused(t, `"a"~65&`+s, 3, api.ErrQueryForm)
	}
}

// bracketed is the form of the text of an even tree, with brackets around each pair.
func bracketed(n int) string {
	if n == 0 {
		return "a"
	}
	return "(" + bracketed(n-1) + "|" + bracketed(n-1) + ")"
}

func TestParseOfTooManyAndTooDeep(t *testing.T) {
	// 63 nodes, 6 deep.
	s := bracketed(5)
	checkForm(t, s, even(5))
	checkForm(t, "!"+s, "!"+even(5))
	checkForm(t, ">"+s, ">"+even(5))
	for _, more := range []string{"!!" + s, "!>" + s, s + "|a", "a&" + s, "!" + s + "&a", "  !!" + s, "(!!" + s + ")"} {
		checkRefused(t, text(more), 0, api.ErrQueryMany)
	}
	// A depth of 16, and of 17.
	for n, deep := range map[int]bool{15: false, 16: true, 17: true, 31: true} {
		for _, x := range [][2]string{
			{"a" + many(n, "|b"), many(n, "|") + "a" + many(n, "b")},
			{"a" + many(n, "&b"), many(n, "&") + "a" + many(n, "b")},
			{many(n, "a|(") + "b" + many(n, ")"), many(n, "|a") + "b"},
			{many(n, "a&(") + "b" + many(n, ")"), many(n, "&a") + "b"},
			{many(n, "!") + "a", many(n, "!") + "a"},
			{many(n, ">") + "a", many(n, ">") + "a"},
			{many(n, "!(") + "a" + many(n, ")"), many(n, "!") + "a"},
			{"a|" + many(n-1, "!") + "b", "|a" + many(n-1, "!") + "b"},
			{many(n-1, "!") + "b&a", "&" + many(n-1, "!") + "ba"},
		} {
			if deep {
				checkRefused(t, text(x[0]), 0, api.ErrQueryDeep)
				checkRefused(t, "  "+text(x[0]), 0, api.ErrQueryDeep)
			} else {
				checkForm(t, x[0], x[1])
			}
		}
	}
	// Of both, too many is told.
	checkRefused(t, text(many(63, "!")+"a"), 0, api.ErrQueryDeep)
	checkRefused(t, text(many(64, "!")+"a"), 0, api.ErrQueryMany)
	checkRefused(t, text(many(997, "!")+"a"), 0, api.ErrQueryMany)
	checkRefused(t, text("!a"+many(31, "|b")), 0, api.ErrQueryDeep)
	checkRefused(t, text("!!a"+many(31, "|b")), 0, api.ErrQueryMany)
	checkRefused(t, text("a"+many(32, "&b")), 0, api.ErrQueryMany)
	checkRefused(t, text("a"+many(249, "&b")), 0, api.ErrQueryMany)
}

// mark is a sign, or an Open, that waits for what is behind it, with what it stands for, and how it binds.
type mark struct{ node, binds int }

// treesOf reads tokens by two piles, one of trees and one of signs that wait: it tells the tree, and the place of the first token that can stand nowhere there (the end, if they end too soon); -1, if there is none.
func treesOf(tokens []token.Token, end int) ([]api.Node, int) {
	binds := map[int]mark{token.Or: {api.Or, 1}, token.And: {api.And, 2}, token.Not: {api.Not, 3}, token.Shift: {api.Shift, 3}}
	var trees [][]api.Node
	var signs []api.Node
	// fold makes trees of all signs that bind as much as that, down to an Open.
	fold := func(least int) {
		for len(signs) > 0 && signs[len(signs)-1].Kind != 0 {
			sign := signs[len(signs)-1]
			strength := map[int]int{api.Or: 1, api.And: 2, api.Not: 3, api.Shift: 3}[sign.Kind]
			if strength < least {
				return
			}
			signs = signs[:len(signs)-1]
			taken := 2
			if strength == 3 {
				taken = 1
			}
			made := slices.Concat(append([][]api.Node{{sign}}, trees[len(trees)-taken:]...)...)
			trees = append(trees[:len(trees)-taken], made)
		}
	}
	wants, open, fuzz := true, 0, false
	for _, k := range tokens {
		mayFuzz := fuzz
		fuzz = false
		switch {
		case wants && k.Kind == token.Pattern:
			trees = append(trees, []api.Node{find(0, k.P...)})
			wants, fuzz = false, true
		case wants && k.Kind == token.Open:
			signs = append(signs, api.Node{})
			open++
		case wants && (k.Kind == token.Not || k.Kind == token.Shift):
			signs = append(signs, api.Node{Kind: binds[k.Kind].node, N: k.N})
		case !wants && (k.Kind == token.And || k.Kind == token.Or):
			fold(binds[k.Kind].binds)
			signs = append(signs, api.Node{Kind: binds[k.Kind].node})
			wants = true
		case !wants && k.Kind == token.Close && open > 0:
			fold(1)
			signs = signs[:len(signs)-1]
			open--
		case mayFuzz && k.Kind == token.Fuzz && k.N <= 64:
			trees[len(trees)-1][0].Leaf.K = k.N
		default:
			return nil, k.At
		}
	}
	if wants || open > 0 {
		return nil, end
	}
	fold(1)
	return trees[0], -1
}

// checkPiles holds what Parse tells of s, which Lex does not refuse, against what the two piles tell; and what is parsed against P14.4.
func checkPiles(t *testing.T, s string) {
	t.Helper()
	tokens, _, errno := token.Lex(s)
	if errno != api.OK {
		t.Fatalf("Lex refuses %q", s)
	}
	l, at := treesOf(tokens, len(s))
	if at >= 0 {
		checkRefused(t, s, at, api.ErrQueryForm)
		return
	}
	if len(l) > 64 {
		checkRefused(t, s, 0, api.ErrQueryMany)
		return
	}
	if depth, _, _ := depthOf(l); depth > 16 {
		checkRefused(t, s, 0, api.ErrQueryDeep)
		return
	}
	checkParse(t, s, l)
	checkBack(t, l)
	first, _ := Print(l)
	again, _, _ := Parse(first)
	if second, _ := Print(again); second != first {
		t.Errorf("P14.4: %q, printed, parsed and printed again is %q, not %q", s, second, first)
	}
}

func TestParseOfAllShortRowsOfTokens(t *testing.T) {
	for n := range 6 {
		for _, which := range every(n, "012345678") {
			s := ""
			for i := range len(which) {
				s += lexemes[which[i]-'0']
				if i%2 == 0 {
					s += " "
				}
			}
			checkPiles(t, s)
		}
	}
}

func TestParseOfManyRowsOfTokens(t *testing.T) {
	parts := []string{"(", "(", ")", ")", "&", "|", "!", ">3", ">0 ", "~1", `"a"`, `"b" `, `"[^a]?"~2`, " "}
	for seed := range 6000 {
		s := ""
		for _, i := range numbers(seed, 1+seed%24, len(parts)) {
			s += parts[i]
		}
		checkPiles(t, s)
	}
}

func TestParseOfQueriesThatAreSpoilt(t *testing.T) {
	for seed := range 1500 {
		l := treeRow(seed, 1+seed%30)
		s, is := Print(l)
		if !is || len(s) > 900 {
			continue
		}
		checkPiles(t, s)
		tokens, _, _ := token.Lex(s)
		for i, x := range numbers(seed, 4, len(tokens)) {
			other := lexemes[numbers(seed+i, 1, len(lexemes))[0]]
			at := tokens[x].At
			checkPiles(t, s[:at]+" "+other+" "+s[at:])
			end := len(s)
			if x+1 < len(tokens) {
				end = tokens[x+1].At
			}
			checkPiles(t, s[:at]+" "+s[end:])
			checkPiles(t, s[:at]+other+" "+s[end:])
			checkPiles(t, s[:at])
		}
	}
}

// samples are the Leaves of trees, right ones all.
func samples() []api.Leaf {
	return []api.Leaf{
		{P: []api.Class{a}}, {P: []api.Class{b}, K: 1}, {P: []api.Class{full}}, {P: []api.Class{a, full, b}, K: 2},
		{P: []api.Class{alone('"'), alone('\\'), alone('?'), alone(0), alone(255), alone(' ')}, K: 64},
		{P: []api.Class{upTo(0, 254), upTo('a', 'c'), upTo(']', '^')}}, {P: []api.Class{upTo('0', '9')}, K: 10},
		{P: times(30, a), K: 9}, {P: times(64, alone(0)), K: 64}, {P: []api.Class{alone('('), alone(')'), alone('&'), alone('|'), alone('!'), alone('>'), alone('~')}},
	}
}

// treeRow is a tree of n nodes, always the same one for one seed; it may be too deep, or too long.
func treeRow(seed, n int) []api.Node {
	x := numbers(seed, 4, 1<<30)
	if n == 1 {
		all := samples()
		l := all[x[1]%len(all)]
		return []api.Node{{Kind: api.Find, Leaf: l}}
	}
	if n == 2 || x[0]%4 == 0 {
		node := api.Node{Kind: api.Not}
		if x[1]%2 == 0 {
			node = api.Node{Kind: api.Shift, N: []int{0, 3, 64, 65, 12345, 1000000}[x[2]%6]}
		}
		return append([]api.Node{node}, treeRow(seed*31+1, n-1)...)
	}
	first := 1 + x[1]%(n-2)
	kind := api.And + x[2]%2
	return slices.Concat([]api.Node{{Kind: kind}}, treeRow(seed*31+2, first), treeRow(seed*31+3, n-1-first))
}

// leafText is the text of a Leaf, element by element.
func leafText(l api.Leaf) string {
	s := `"`
	for _, element := range l.P {
		x, _ := token.Element(element)
		s += x
	}
	s += `"`
	if l.K > 0 {
		s += fmt.Sprintf("~%d", l.K)
	}
	return s
}

// textOf is the text of the tree by which l begins, and how many nodes that has.
func textOf(l []api.Node) (string, int) {
	x := l[0]
	if x.Kind == api.Find {
		return leafText(x.Leaf), 1
	}
	first, n := textOf(l[1:])
	inner := l[1].Kind
	if x.Kind == api.Not || x.Kind == api.Shift {
		if inner == api.And || inner == api.Or {
			first = "(" + first + ")"
		}
		if x.Kind == api.Shift {
			return fmt.Sprintf(">%d%s", x.N, first), n + 1
		}
		return "!" + first, n + 1
	}
	second, m := textOf(l[1+n:])
	behind := l[1+n].Kind
	sign := " | "
	if x.Kind == api.And {
		sign = " & "
		if inner == api.Or {
			first = "(" + first + ")"
		}
	}
	if behind == api.Or || behind == api.And && x.Kind == api.And {
		second = "(" + second + ")"
	}
	return first + sign + second, 1 + n + m
}

func TestPrintOfEachKindInEachKind(t *testing.T) {
	for tree, want := range map[string]string{
		"a": "a", "A": "A",
		"!a": "!a", "!!a": "!!a", "!>a": "!>a", "!&ab": "!(a & b)", "!|ab": "!(a | b)",
		">a": ">a", ">!a": ">!a", ">>a": ">>a", ">&ab": ">(a & b)", ">|ab": ">(a | b)",
		"&ab": "a & b", "&!ab": "!a & b", "&a!b": "a & !b", "&>ab": ">a & b", "&a>b": "a & >b",
		"&&abc": "a & b & c", "&a&bc": "a & (b & c)", "&|abc": "(a | b) & c", "&a|bc": "a & (b | c)",
		"|ab": "a | b", "|!ab": "!a | b", "|a!b": "a | !b", "|>ab": ">a | b", "|a>b": "a | >b",
		"||abc": "a | b | c", "|a|bc": "a | (b | c)", "|&abc": "a & b | c", "|a&bc": "a | b & c",
		"|AB": "A | B", "!A": "!A", "&A|BC": "A & (B | C)",
		"||ab|cd": "a | b | (c | d)", "&&ab&cd": "a & b & (c & d)", "|&ab&cd": "a & b | c & d", "&|ab|cd": "(a | b) & (c | d)",
		"&&|abcd": "(a | b) & c & d", "&a&|bcd": "a & ((b | c) & d)", "|a|b|cd": "a | (b | (c | d))", "&!&ab!|cd": "!(a & b) & !(c | d)",
		"!&|abc": "!((a | b) & c)", "|||abcd": "a | b | c | d", "&&&abcd": "a & b & c & d", "||a&bcd": "a | b & c | d", "|a|&bcd": "a | (b & c | d)",
	} {
		checkPrint(t, row(tree), text(want))
	}
}

func TestPrintOfFinds(t *testing.T) {
	for k := range 65 {
		want := ""
		if k > 0 {
			want = "~" + strconv.Itoa(k)
		}
		checkPrint(t, []api.Node{find(k, a, full, b)}, `"a?b"`+want)
		checkPrint(t, append(row("!|a"), find(k, b)), `!("a" | "b"`+want+`)`)
	}
	checkPrint(t, []api.Node{find(0, upTo('a', 'c'), alone('"'), alone(7))}, `"[a-c]\"\x07"`)
	checkPrint(t, []api.Node{find(0, times(64, full)...)}, `"`+many(64, "?")+`"`)
	checkPrint(t, []api.Node{find(64, times(64, a)...)}, `"`+many(64, "a")+`"~64`)
	for _, l := range samples() {
		checkPrint(t, []api.Node{{Kind: api.Find, Leaf: l}}, leafText(l))
	}
	// No Pattern without a text is right.
	for _, x := range []api.Node{find(0), find(0, none), find(0, a, none), find(1, none, a), find(0, times(65, a)...), find(65, a), find(-1, a)} {
		for _, l := range [][]api.Node{{x}, append(row("!"), x), append(row("|a"), x)} {
			if s, is := Print(l); s != "" || is {
				t.Errorf("P14.3: Print of %v is %q, %v", l, s, is)
			}
		}
	}
}

func TestPrintOfShifts(t *testing.T) {
	for _, n := range []int{0, 1, 9, 10, 64, 65, 99, 100, 999, 1000, 12345, 99999, 100000, 999999, 1000000} {
		shift := []api.Node{{Kind: api.Shift, N: n}}
		digits := strconv.Itoa(n)
		checkPrint(t, append(shift, row("a")...), ">"+digits+`"a"`)
		checkPrint(t, slices.Concat(row("!"), shift, row("&ab")), "!>"+digits+`("a" & "b")`)
		checkPrint(t, slices.Concat(shift, shift, row("A")), ">"+digits+">"+digits+`"a"~1`)
	}
}

// forms are the short forms of all trees of n nodes.
func forms(n int, known map[int][]string) []string {
	if n == 1 {
		return []string{"a", "B"}
	}
	if known[n] != nil {
		return known[n]
	}
	var all []string
	for _, x := range forms(n-1, known) {
		all = append(all, "!"+x, ">"+x)
	}
	for first := 1; first+1 < n; first++ {
		for _, x := range forms(first, known) {
			for _, y := range forms(n-1-first, known) {
				all = append(all, "&"+x+y, "|"+x+y)
			}
		}
	}
	known[n] = all
	return all
}

func TestPrintOfAllShortTrees(t *testing.T) {
	known := map[int][]string{}
	for n := 1; n <= 7; n++ {
		for _, form := range forms(n, known) {
			l := row(form)
			want, _ := textOf(l)
			checkPrint(t, l, want)
		}
	}
}

func TestPrintOfManyTrees(t *testing.T) {
	told, long := 0, 0
	for seed := range 4000 {
		l := treeRow(seed, 1+seed%64)
		if depth, _, _ := depthOf(l); depth > 16 {
			checkTree(t, l, false, depth)
			continue
		}
		want, _ := textOf(l)
		checkPrint(t, l, want)
		told++
		if len(want) > 1000 {
			long++
		}
	}
	if told < 1000 || long < 10 {
		t.Fatalf("P14.4: only %d trees, %d with long texts", told, long)
	}
}

func TestTextsAsLongAsCanBe(t *testing.T) {
	// Each of the 64 elements is written with 4 bytes.
	long := find(0, times(64, alone(0))...)
	quoted := `"` + many(64, `\x00`) + `" | `
	for size := 990; size < 1010; size++ {
		left := size - len(many(3, quoted)) - 2
		last := find(0, append(times(left/4, alone(0)), times(left%4, a)...)...)
		l := slices.Concat(row("|||"), []api.Node{long, long, long, last})
		want := many(3, quoted) + `"` + many(left/4, `\x00`) + many(left%4, "a") + `"`
		if len(want) != size {
			t.Fatalf("%d bytes, not %d", len(want), size)
		}
		checkPrint(t, l, want)
		if size <= 1000 {
			checkParse(t, want, l)
		} else {
			checkRefused(t, want, 1000, api.ErrTokenLong)
		}
	}
}

func TestWhatIsParsedIsStable(t *testing.T) {
	for _, form := range []string{"a", "((a))", "(a|b)|(c|d)", "((a&b))&((c|(d)))", "!(a)", "!!(>(a&b))", "  a|  b ", "(A)&(b)", ">(>(a))"} {
		checkPiles(t, text(form))
	}
	for s, want := range map[string]string{`((("a"~0)))`: `"a"`, `("a"&"b")&"c"`: `"a" & "b" & "c"`, `("a"&"b")|("c")`: `"a" & "b" | "c"`, `!(!("a"))`: `!!"a"`, ` "[a]"|"[abc]" `: `"a" | "[a-c]"`, `"\x61"~3`: `"a"~3`, `>0("a"|"b")`: `>0("a" | "b")`} {
		l, _, errno := Parse(s)
		if got, is := Print(l); got != want || !is || errno != api.OK {
			t.Errorf("P14.4: %q is printed as %q, not %q", s, got, want)
		}
	}
}

func TestArgumentsStayAsTheyWere(t *testing.T) {
	for _, l := range [][]api.Node{row("|&ab!C"), row("a"), row("!"), row("aa"), row("0a"), row("&a>b"), {find(70, times(65, a)...)}, treeRow(5, 20), row(many(20, "!") + "a")} {
		// Behind the nodes, and behind their elements, there is room that is not to be written into.
		given := append(copied(l), row("0a|")...)
		for i := range given {
			given[i].Leaf.P = append(given[i].Leaf.P, a, b, full)[:len(given[i].Leaf.P)]
		}
		Right(given[:len(l)])
		Depth(given[:len(l)])
		Print(given[:len(l)])
		Leaves(given[:len(l)])
		Longest(given[:len(l)])
		Same(given[:len(l)], l)
		Same(l, given[:len(l)])
		if !alike(given[:len(l)], l) || !alike(given[len(l):], row("0a|")) {
			t.Errorf("P14.1: %v is changed", l)
		}
		for i := range given {
			n := len(given[i].Leaf.P)
			if !slices.Equal(given[i].Leaf.P[n:n+3], []api.Class{a, b, full}) {
				t.Errorf("P14.1: elements of %v are changed", l)
			}
		}
	}
}

func TestNodesOfParseAreTheCallersOwn(t *testing.T) {
	s := text("a & (A | !b) & >b | a")
	want := row("|&&a|A!b>ba")
	for range 3 {
		l, _, _ := Parse(s)
		if !alike(l, want) {
			t.Fatalf("P14.2: Parse of %q hangs on what was written into an earlier answer: %v", s, l)
		}
		for i := range l {
			_ = append(l[i].Leaf.P, full, full, full, full)
			if !alike(l, want) {
				t.Fatalf("P14.2: nodes of %q share memory", s)
			}
		}
		for i := range l {
			for j := range l[i].Leaf.P {
				l[i].Leaf.P[j] = full
			}
			if !alike(l[i+1:], want[i+1:]) {
				t.Fatalf("P14.2: nodes of %q share memory", s)
			}
		}
		spare := l[:cap(l)]
		for i := range spare {
			spare[i] = api.Node{Kind: api.Shift, N: 9}
		}
	}
}

func TestLeavesAreTheCallersOwn(t *testing.T) {
	// Two Finds have one row of elements, with room behind.
	shared := append(times(2, a), b, b, b)
	l := []api.Node{{Kind: api.Or}, {Kind: api.Find, Leaf: api.Leaf{P: shared[:2]}}, {Kind: api.Find, Leaf: api.Leaf{P: shared[:2], K: 1}}}
	want := []api.Leaf{{P: times(2, a)}, {P: times(2, a), K: 1}}
	for range 3 {
		got := Leaves(l)
		if !slices.EqualFunc(got, want, sameLeaf) {
			t.Fatalf("P14.1: Leaves hang on what was written into an earlier answer: %v", got)
		}
		for i := range got {
			for range 4 {
				_ = append(got[i].P, full)
			}
		}
		if !slices.EqualFunc(got, want, sameLeaf) || !slices.Equal(shared, []api.Class{a, a, b, b, b}) {
			t.Fatal("P14.1: Leaves share memory")
		}
		got[0].P[0], got[0].P[1] = full, none
		if !sameLeaf(got[1], want[1]) || !slices.Equal(shared, []api.Class{a, a, b, b, b}) {
			t.Fatal("P14.1: Leaves share memory")
		}
		got[1].P[0] = full
		got[0].K, got[1].K = 7, 8
		if !slices.Equal(shared, []api.Class{a, a, b, b, b}) || l[1].Leaf.K != 0 || l[2].Leaf.K != 1 {
			t.Fatal("P14.1: Leaves share memory with the nodes")
		}
	}
	// What is told stays as it is when the nodes are written into.
	got := Leaves(l)
	shared[0] = full
	l[1].Leaf.K = 5
	if !slices.EqualFunc(got, want, sameLeaf) {
		t.Fatal("P14.1: Leaves share memory with the nodes")
	}
}

func TestTheSameIsToldAlways(t *testing.T) {
	texts := []string{"", "(", text("a & b | !C"), text("a b"), "x", text(many(70, "!") + "a"), text(many(20, "!") + "a"), `"a"~65`, text("a|(b|c)&d")}
	for _, s := range texts {
		first, n, errno := Parse(s)
		for range 10 {
			again, m, other := Parse(s)
			if !alike(first, again) || n != m || errno != other {
				t.Errorf("P14.2: Parse of %q tells %v and %v", s, first, again)
			}
		}
	}
	for seed := range 50 {
		l := treeRow(seed, 1+seed%20)
		first, is := Print(l)
		for range 5 {
			if again, still := Print(copied(l)); again != first || still != is {
				t.Errorf("P14.3: Print of %v is %q and %q", l, first, again)
			}
			checkRow(t, l)
		}
	}
}

func TestExamples(t *testing.T) {
	checkParse(t, `"a" & "b" | !"c"~1`, row("|&ab!C"))
	checkPrint(t, row("|&ab!C"), `"a" & "b" | !"c"~1`)
	checkRefused(t, `"a" "b"`, 4, api.ErrQueryForm)
}
