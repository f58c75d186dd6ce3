package split

import (
	"math"
	"slices"
	"strings"
	"testing"

	"beagle/api"
	"beagle/block"
	"beagle/class"
	"beagle/leaf"
	"beagle/naive"
	"beagle/symb"
)

// The elements of the samples: of one byte, of more, of none, of all.
var (
	a    = alone('a')
	b    = alone('b')
	c    = alone('c')
	x    = alone('x')
	ab   = api.Class{0, 1<<('a'-64) | 1<<('b'-64), 0, 0}
	bc   = api.Class{0, 1<<('b'-64) | 1<<('c'-64), 0, 0}
	ends = api.Class{1, 0, 0, 1 << 63}
	most = api.Class{^uint64(0), ^uint64(0), ^uint64(0), ^uint64(0) >> 1}
	full = api.Class{^uint64(0), ^uint64(0), ^uint64(0), ^uint64(0)}
	none = api.Class{}
)

// noSizes are no sizes of any block.
var noSizes = []int{
	math.MinInt, math.MinInt + 1, -1 << 32, -4096, -64, -2, -1, 0,
	3, 5, 6, 7, 12, 31, 33, 63, 65, 96, 127, 129, 1000, 2047, 2049, 4095, 4097, 8191, 8192, 8193, 1 << 20, 1 << 32, 1<<32 + 64, 1 << 62, math.MaxInt,
}

// leasts are from so small that all kinds are frequent to so great that none is.
var leasts = []int{math.MinInt, -65, -1, 0, 1, 2, 3, 4, 5, 10, 31, 32, 33, 63, 64, 65, 1000, math.MaxInt}

// alone is the class of one byte, laid into words, as api says.
func alone(x byte) api.Class {
	var element api.Class
	element[x/64] = 1 << (x % 64)
	return element
}

// allBut is the class of all bytes but one.
func allBut(x byte) api.Class {
	element := full
	element[x/64] &^= 1 << (x % 64)
	return element
}

func row(k int, elements ...api.Class) api.Leaf { return api.Leaf{P: elements, K: k} }

func times(n int, element api.Class) []api.Class {
	return slices.Repeat([]api.Class{element}, n)
}

// pattern is the leaf of the letters of s, of which ? is a free element.
func pattern(s string, k int) api.Leaf {
	l := api.Leaf{K: k}
	for i := range len(s) {
		element := alone(s[i])
		if s[i] == '?' {
			element = full
		}
		l.P = append(l.P, element)
	}
	return l
}

// withK is l with another K.
func withK(l api.Leaf, k int) api.Leaf {
	l.K = k
	return l
}

// with is l with another element at one place.
func with(l api.Leaf, at int, element api.Class) api.Leaf {
	l.P = slices.Clone(l.P)
	l.P[at] = element
	return l
}

// numbers are n numbers below most, always the same ones for one seed.
func numbers(seed, n, most int) []int {
	x := uint64(88172645463325252) + uint64(seed)*2654435761
	l := make([]int, n)
	for i := range l {
		x ^= x << 13
		x ^= x >> 7
		x ^= x << 17
		l[i] = int(x>>33) % most
	}
	return l
}

// written is a text of n bytes out of some.
func written(seed, n int, some string) string {
	t := make([]byte, n)
	for i, x := range numbers(seed, n, len(some)) {
		t[i] = some[x]
	}
	return string(t)
}

// rising is all bytes, each once.
func rising() string {
	text := make([]byte, 256)
	for i := range text {
		text[i] = byte(i)
	}
	return string(text)
}

// different is a leaf of n elements, each of another kind.
func different(n, k int) api.Leaf {
	return leaf.Text(rising()[:n], k)
}

// has reads a class's bits, as api says of its words.
func has(element api.Class, x byte) bool {
	return element[x/64]&(1<<(x%64)) != 0
}

// standsAt tells how many elements of a leaf are that class.
func standsAt(l api.Leaf, element api.Class) int {
	places := 0
	for _, other := range l.P {
		if other == element {
			places++
		}
	}
	return places
}

// partsOf tells the frequent and the rare kinds by the definition.
func partsOf(l api.Leaf, least int) ([]api.Class, []api.Class) {
	var frequent, rare []api.Class
	for i, element := range l.P {
		if element == full || slices.Contains(l.P[:i], element) {
			continue
		}
		if standsAt(l, element) < least {
			rare = append(rare, element)
		} else {
			frequent = append(frequent, element)
		}
	}
	return frequent, rare
}

// rareOf tells by the definition how many elements of those kinds a leaf that is right does not miss.
func rareOf(l api.Leaf, text string, kinds []api.Class) []int {
	var kept []int
	for i := 0; i+len(l.P) <= len(text); i++ {
		count := 0
		for j, element := range l.P {
			if slices.Contains(kinds, element) && has(element, text[i+j]) {
				count++
			}
		}
		kept = append(kept, count)
	}
	return kept
}

// countsOf tells by the definition how many elements a leaf that is right misses.
func countsOf(l api.Leaf, text string) []int {
	var counts []int
	for i := 0; i+len(l.P) <= len(text); i++ {
		count := 0
		for j, element := range l.P {
			if !has(element, text[i+j]) {
				count++
			}
		}
		counts = append(counts, count)
	}
	return counts
}

// hitsOf tells the places of the counts that are k at most.
func hitsOf(counts []int, k int) []int {
	var places []int
	for i := range counts {
		if !(counts[i] > k) {
			places = append(places, i)
		}
	}
	return places
}

// transformsOf tells how many transforms it takes to slide the frequent kinds of l along a text of n bytes.
func transformsOf(l api.Leaf, n, size, least int) int {
	frequent, _ := partsOf(l, least)
	return len(frequent) * block.Count(len(l.P), n, size)
}

// sizesOf are all sizes of blocks of so many numbers.
func sizesOf(m int) []int {
	var sizes []int
	for size := 1; size <= 4096; size *= 2 {
		if size >= m {
			sizes = append(sizes, size)
		}
	}
	return sizes
}

// plain are leaves that are right and plain, at the edges and ordinary ones.
func plain() []api.Leaf {
	leaves := []api.Leaf{
		pattern("a", 0), pattern("a", 1), pattern("a", 64), pattern("?", 0), pattern("?", 3), row(0, alone(0)), row(1, alone(255)),
		pattern("ab", 0), pattern("ab", 1), pattern("ba", 2), pattern("ab", 3), pattern("aa", 0), pattern("aba", 1), pattern("abca", 1), pattern("cbac", 2),
		pattern("?a", 0), pattern("a?", 1), pattern("a?b", 1), pattern("??", 0), pattern("?a??b?", 1), pattern("a?a?b??a", 2), pattern("aab?bbbc", 3), pattern("xaxbxcx?", 4),
		row(0, alone(127), alone(128)), row(1, alone(255), alone(0), alone(255), full, alone(128)),
		row(0, times(63, a)...), row(30, times(64, a)...), row(64, times(64, b)...), row(0, times(64, full)...),
		with(row(0, times(64, full)...), 0, a), with(row(0, times(64, full)...), 63, b), with(row(20, times(64, a)...), 31, full), with(row(20, times(64, a)...), 63, b),
		different(7, 5), different(64, 62),
	}
	for seed := range 4 {
		leaves = append(leaves,
			pattern(written(seed, 2+seed, "ab"), seed%3),
			pattern(written(seed, 3+seed*2, "aabc?"), 1+seed),
			pattern(written(seed, 30+seed*11, "aaabbcx?"), 15+5*seed))
	}
	return leaves
}

// notPlain are leaves that are right, but not plain.
func notPlain() []api.Leaf {
	return []api.Leaf{
		row(0, ab), row(1, ab), row(0, most), row(0, ends), row(64, allBut('a')),
		row(0, a, ab), row(0, ab, a), row(1, a, b, bc), row(0, full, ab), row(2, a, full, ends, b), row(0, ab, ab, ab, bc),
		row(0, times(64, ab)...), with(row(0, times(64, a)...), 0, bc), with(row(64, times(64, full)...), 63, most), with(row(3, times(64, b)...), 31, allBut(0)),
	}
}

// notRight are leaves that are not right, each for one cause, but the last ones.
func notRight() []api.Leaf {
	return []api.Leaf{
		{}, {P: []api.Class{}}, {K: 1}, {K: 64}, leaf.Text("", 0),
		row(0, times(65, a)...), row(0, times(65, full)...), leaf.Text(strings.Repeat("ab", 33), 0), row(1, times(300, a)...),
		row(0, none), row(64, none, none), row(0, none, a), row(0, a, none), row(1, a, none, b), with(row(0, times(64, a)...), 63, none), with(row(64, times(64, full)...), 0, none),
		row(-1, a), pattern("ab", -1), row(-1, full), row(-64, a, b), row(math.MinInt, a),
		row(65, a), pattern("ab", 65), row(65, full), row(65, times(64, a)...), row(math.MaxInt, a),
		row(-1), row(65, none), row(-1, ab), row(65, ab, none), row(0, times(65, ab)...),
	}
}

// texts are at the edges and ordinary; bytes that are no runes are among them.
func texts() []string {
	all := []string{
		"", "a", "b", "ab", "ba", "aa", "abc", "abca", "abab", "abbb", "aaaa", "abcabca", "axcbbxc", "axbabcab",
		"\x00", "\xff", "\x7f\x80", "\x00\x7f\x80\xff\x00\xff\x00\x00", "\x80\x80\x81", "a\x80b\xffab", "\xed\xa0\x80ab", "é", "日本ab", "\ufffdab",
		strings.Repeat("a", 63), strings.Repeat("a", 64), strings.Repeat("a", 65), strings.Repeat("ab", 40),
		strings.Repeat("a", 63) + "b" + strings.Repeat("a", 64), rising(),
	}
	for seed := range 3 {
		all = append(all, written(seed, 20+seed*37, "ab"), written(seed, 90, "abcx"), written(seed, 130, "\x00\x7f\x80\xffab"))
	}
	return all
}

// every is all texts of up to n bytes out of some.
func every(n int, some string) []string {
	all, longest := []string{""}, []string{""}
	for range n {
		var longer []string
		for _, text := range longest {
			for i := range len(some) {
				longer = append(longer, text+some[i:i+1])
			}
		}
		all, longest = append(all, longer...), longer
	}
	return all
}

// kinds writes a row of kinds out.
func kinds(elements ...api.Class) []api.Class { return elements }

// checkParts holds Parts against the rows that are asked.
func checkParts(t *testing.T, l api.Leaf, least int, wantFrequent, wantRare []api.Class) {
	t.Helper()
	frequent, rare := Parts(l, least)
	if !slices.Equal(frequent, wantFrequent) || !slices.Equal(rare, wantRare) {
		t.Errorf("P12.1: Parts of %v, least %d, are %v and %v, not %v and %v", l, least, frequent, rare, wantFrequent, wantRare)
	}
}

// checkRare holds Rare against the row that is asked.
func checkRare(t *testing.T, l api.Leaf, text string, some []api.Class, want ...int) {
	t.Helper()
	if got := Rare(l, text, some); !slices.Equal(got, want) {
		t.Errorf("P12.1: Rare of %v in %q, kinds %v, is %v, not %v", l, text, some, got, want)
	}
}

// checkBoth holds Counts, and Find, against the counts and the number of transforms that are asked.
func checkBoth(t *testing.T, l api.Leaf, text string, size, least, want int, counts ...int) {
	t.Helper()
	if got, number, errno := Counts(l, text, size, least); !slices.Equal(got, counts) || number != want || errno != api.OK {
		t.Errorf("P12.2: Counts of %v in %q, size %d, least %d, are %v, %d, %d, not %v, %d, 0", l, text, size, least, got, number, errno, counts, want)
	}
	places := hitsOf(counts, l.K)
	if got, number, errno := Find(l, text, size, least); !slices.Equal(got, places) || number != want || errno != api.OK {
		t.Errorf("P12.2: Find of %v in %q, size %d, least %d, tells %v, %d, %d, not %v, %d, 0", l, text, size, least, got, number, errno, places, want)
	}
}

// check holds Counts and Find of a leaf that is right and plain against the definition, for a size that may be.
func check(t *testing.T, l api.Leaf, text string, size, least int) {
	t.Helper()
	checkBoth(t, l, text, size, least, transformsOf(l, len(text), size, least), countsOf(l, text)...)
}

// checkErrors holds the error of Counts and Find, beside which there is nothing, against the one that is asked.
func checkErrors(t *testing.T, l api.Leaf, text string, size, least int, want api.Errno) {
	t.Helper()
	if got, number, errno := Counts(l, text, size, least); len(got) != 0 || number != 0 || errno != want {
		t.Errorf("P12.2: Counts of %v in %q, size %d, least %d, are %v, %d, %d, not the error %d alone", l, text, size, least, got, number, errno, want)
	}
	if got, number, errno := Find(l, text, size, least); len(got) != 0 || number != 0 || errno != want {
		t.Errorf("P12.2: Find of %v in %q, size %d, least %d, tells %v, %d, %d, not the error %d alone", l, text, size, least, got, number, errno, want)
	}
}

func TestPartsAtTheEdges(t *testing.T) {
	for _, least := range leasts {
		// Without kinds both rows are empty.
		checkParts(t, api.Leaf{}, least, nil, nil)
		checkParts(t, row(5, []api.Class{}...), least, nil, nil)
		checkParts(t, pattern("?", 0), least, nil, nil)
		checkParts(t, pattern("???", 1), least, nil, nil)
		checkParts(t, row(0, times(64, full)...), least, nil, nil)
	}
	for _, least := range []int{math.MinInt, -1, 0, 1} {
		checkParts(t, pattern("a", 0), least, kinds(a), nil)
		checkParts(t, pattern("abca", 1), least, kinds(a, b, c), nil)
		checkParts(t, pattern("?c?", 1), least, kinds(c), nil)
	}
	for _, least := range []int{2, 3, math.MaxInt} {
		checkParts(t, pattern("a", 0), least, nil, kinds(a))
		checkParts(t, pattern("cab", 0), least, nil, kinds(c, a, b))
	}
	// As many as a kind stands at, and one more; as many as there are elements, and one more.
	l := pattern("cab?bxbaa?b", 0)
	checkParts(t, l, 1, kinds(c, a, b, x), nil)
	checkParts(t, l, 2, kinds(a, b), kinds(c, x))
	checkParts(t, l, 3, kinds(a, b), kinds(c, x))
	checkParts(t, l, 4, kinds(b), kinds(c, a, x))
	checkParts(t, l, 5, nil, kinds(c, a, b, x))
	checkParts(t, l, 11, nil, kinds(c, a, b, x))
	checkParts(t, l, 12, nil, kinds(c, a, b, x))
	for _, m := range []int{1, 2, 3, 63, 64} {
		checkParts(t, row(0, times(m, b)...), m-1, kinds(b), nil)
		checkParts(t, row(0, times(m, b)...), m, kinds(b), nil)
		checkParts(t, row(0, times(m, b)...), m+1, nil, kinds(b))
	}
	// Free elements are no kind, however many they are.
	checkParts(t, pattern("?a??", 0), 2, nil, kinds(a))
	checkParts(t, pattern("a?a??", 0), 2, kinds(a), nil)
}

func TestPartsTellsKindsApart(t *testing.T) {
	// Kinds that share bytes.
	checkParts(t, row(0, a, ab, bc, ab), 2, kinds(ab), kinds(a, bc))
	checkParts(t, row(0, ab, a, b, a, bc, b), 2, kinds(a, b), kinds(ab, bc))
	// Kinds that differ in one byte.
	checkParts(t, row(0, most, full, allBut('a'), most), 2, kinds(most), kinds(allBut('a')))
	for y := range 256 {
		one, others := alone(byte(y)), allBut(byte(y))
		checkParts(t, row(0, one, others, full, one, none, full), 2, kinds(one), kinds(others, none))
		checkParts(t, row(0, one, others, full, others, none, full), 2, kinds(others), kinds(one, none))
		next := alone(byte(y + 1))
		checkParts(t, row(0, one, next, next), 2, kinds(next), kinds(one))
	}
	for word := range 4 {
		one, other := api.Class{7, 7, 7, 7}, api.Class{7, 7, 7, 7}
		other[word] = 5
		checkParts(t, row(0, one, other, one), 2, kinds(one), kinds(other))
	}
}

func TestPartsOfALeafThatIsNotRight(t *testing.T) {
	checkParts(t, row(0, none), 1, kinds(none), nil)
	checkParts(t, row(0, a, none, none), 2, kinds(none), kinds(a))
	checkParts(t, pattern("aba", -1), 2, kinds(a), kinds(b))
	checkParts(t, pattern("aba", 65), 2, kinds(a), kinds(b))
	checkParts(t, row(0, times(65, a)...), 65, kinds(a), nil)
	checkParts(t, row(0, append(times(5000, ab), a)...), 2, kinds(ab), kinds(a))
	// As many kinds as elements: looking each up among all would take long.
	var many []api.Class
	for i := range uint64(200000) {
		many = append(many, api.Class{i})
	}
	checkParts(t, row(0, many...), 1, many, nil)
	checkParts(t, row(0, many...), 2, nil, many)
}

func TestPartsOfSamples(t *testing.T) {
	for _, l := range slices.Concat(plain(), notPlain(), notRight()) {
		for _, least := range append(slices.Clone(leasts), len(l.P)-1, len(l.P), len(l.P)+1) {
			wantFrequent, wantRare := partsOf(l, least)
			checkParts(t, l, least, wantFrequent, wantRare)
			// They hang on no K.
			checkParts(t, withK(l, 7), least, wantFrequent, wantRare)
			frequent, rare := Parts(l, least)
			for _, kind := range leaf.Kinds(l) {
				if slices.Contains(frequent, kind) == slices.Contains(rare, kind) {
					t.Errorf("P12.1: the kind %v of %v, least %d, is not in just one of both Parts", kind, l, least)
				}
				if slices.Contains(frequent, kind) != (len(leaf.Where(l, kind)) >= least) {
					t.Errorf("P12.1: the kind %v of %v, least %d, is in the wrong one of both Parts", kind, l, least)
				}
			}
			if len(frequent)+len(rare) != len(leaf.Kinds(l)) {
				t.Errorf("P12.1: Parts of %v, least %d, are more than the Kinds", l, least)
			}
		}
	}
}

func TestRareOfKinds(t *testing.T) {
	l := pattern("abca", 1)
	checkRare(t, l, "abcabca", nil, 0, 0, 0, 0)
	checkRare(t, l, "abcabca", kinds(), 0, 0, 0, 0)
	checkRare(t, l, "abcabca", kinds(a), 2, 0, 0, 2)
	checkRare(t, l, "abcabca", kinds(b), 1, 0, 0, 1)
	checkRare(t, l, "abcabca", kinds(b, c), 2, 0, 0, 2)
	checkRare(t, l, "abcabca", kinds(a, b, c), 4, 0, 0, 4)
	checkRare(t, l, "abxaaxca", kinds(a, b, c), 3, 1, 0, 1, 3)
	checkRare(t, l, "abxaaxca", kinds(a), 2, 1, 0, 1, 2)
	checkRare(t, l, "abxaaxca", kinds(c, b), 1, 0, 0, 0, 1)
	// Kinds that are none of the leaf's, though they share bytes with its elements.
	checkRare(t, l, "abcabca", kinds(x), 0, 0, 0, 0)
	checkRare(t, l, "abcabca", kinds(ab, bc, most, ends, allBut('x')), 0, 0, 0, 0)
	checkRare(t, l, "abcabca", kinds(x, b, ab), 1, 0, 0, 1)
	// A kind counts once, however often it is given, and in whatever order.
	checkRare(t, l, "abcabca", kinds(a, a, a), 2, 0, 0, 2)
	checkRare(t, l, "abcabca", kinds(c, b, c, b, c), 2, 0, 0, 2)
	checkRare(t, l, "abcabca", times(1000, b), 1, 0, 0, 1)
	// The class of all bytes is that of the free elements, which are never missed; that of no bytes is no element's.
	checkRare(t, l, "abcabca", kinds(full), 0, 0, 0, 0)
	checkRare(t, l, "abcabca", kinds(none), 0, 0, 0, 0)
	checkRare(t, l, "abcabca", kinds(none, full, c), 1, 0, 0, 1)
	checkRare(t, pattern("a?b", 0), "abxb\x00\xff", kinds(full), 1, 1, 1, 1)
	checkRare(t, pattern("a?b", 0), "abbb\x00\xff", kinds(full, a), 2, 1, 1, 1)
	checkRare(t, pattern("???", 0), "\x00\xff\x80z", kinds(full), 3, 3)
	checkRare(t, pattern("???", 0), "\x00\xff\x80z", kinds(a, none, most), 0, 0)
	checkRare(t, row(0, times(64, full)...), rising(), kinds(full), slices.Repeat([]int{64}, 193)...)
}

func TestRareOfALeafThatIsNotPlain(t *testing.T) {
	checkRare(t, row(0, ab, bc, a), "abacb", kinds(ab), 1, 1, 1)
	checkRare(t, row(0, ab, bc, a), "abacb", kinds(bc, a), 2, 0, 1)
	checkRare(t, row(0, ab, bc, a), "abacb", kinds(b, c, a), 1, 0, 0)
	checkRare(t, row(0, ab, bc, a), "abacb", kinds(ab, bc, a), 3, 1, 2)
	checkRare(t, row(0, ends, most), "\x00\xff\xff\x00", kinds(ends), 1, 1, 1)
	checkRare(t, row(0, ends, most), "\x00\xff\xff\x00", kinds(most), 0, 0, 1)
	for y := range 256 {
		one, others := make([]int, 256), slices.Repeat([]int{1}, 256)
		one[y], others[y] = 1, 0
		checkRare(t, row(0, alone(byte(y))), rising(), kinds(alone(byte(y))), one...)
		checkRare(t, row(0, allBut(byte(y))), rising(), kinds(alone(byte(y)), allBut(byte(y))), others...)
	}
}

func TestRareByLengths(t *testing.T) {
	// As long as the text, one shorter, one longer; the empty text.
	checkRare(t, pattern("aba", 0), "abb", kinds(a, b), 2)
	checkRare(t, pattern("aba", 0), "aabb", kinds(a, b), 1, 2)
	checkRare(t, pattern("aba", 0), "ab", kinds(a, b))
	checkRare(t, pattern("aba", 0), "", kinds(a, b))
	checkRare(t, pattern("a", 0), "", kinds(a))
	checkRare(t, pattern("a", 0), "a", kinds(a), 1)
	checkRare(t, pattern("?", 0), "", kinds(full))
	for m := 1; m <= 64; m++ {
		l := pattern(written(m, m, "ab?"), 0)
		for _, n := range []int{0, m / 2, m - 1, m, m + 1, m + 2, 2 * m, 130} {
			text := written(m, n, "abc")
			some := kinds(b, full)
			checkRare(t, l, text, some, rareOf(l, text, some)...)
			if got, want := len(Rare(l, text, nil)), max(0, n-m+1); got != want {
				t.Errorf("P12.1: Rare of %d elements in %d bytes tells %d numbers, not %d", m, n, got, want)
			}
		}
	}
}

func TestRareOfALeafThatIsNotRight(t *testing.T) {
	for _, l := range notRight() {
		for _, text := range []string{"", "a", "abab", strings.Repeat("a", 65), strings.Repeat("ab", 200)} {
			checkRare(t, l, text, nil)
			checkRare(t, l, text, kinds(a, b, full, none))
			checkRare(t, l, text, l.P)
		}
	}
	// It hangs on no K that may be.
	for k := range 65 {
		checkRare(t, pattern("ab", k), "abb", kinds(b), 1, 1)
	}
}

func TestRareOfAllKinds(t *testing.T) {
	for _, l := range append(plain(), notPlain()...) {
		for _, text := range texts() {
			for _, some := range [][]api.Class{nil, leaf.Kinds(l), l.P, kinds(b), kinds(a, full, x, none, a), leaf.Kinds(l)[len(leaf.Kinds(l))/2:]} {
				checkRare(t, l, text, some, rareOf(l, text, some)...)
			}
			kept, counts := Rare(l, text, leaf.Kinds(l)), naive.Counts(l, text)
			if len(kept) != len(counts) {
				t.Fatalf("P12.3: Rare of all Kinds of %v in %q tells %d numbers, where it stands at %d places", l, text, len(kept), len(counts))
			}
			for i := range counts {
				if kept[i] != leaf.Bound(l)-counts[i] {
					t.Errorf("P12.3: Rare of all Kinds of %v in %q is %d at %d, where %d of %d are missed", l, text, kept[i], i, counts[i], leaf.Bound(l))
				}
			}
		}
	}
}

func TestRareOfBothParts(t *testing.T) {
	for _, l := range append(plain(), notPlain()...) {
		for _, text := range []string{"abca", written(1, 130, "aabcx"), rising()} {
			all := Rare(l, text, leaf.Kinds(l))
			for _, least := range leasts {
				frequent, rare := Parts(l, least)
				one, other := Rare(l, text, frequent), Rare(l, text, rare)
				for i := range all {
					if one[i]+other[i] != all[i] {
						t.Errorf("P12.3: of %v in %q, least %d, %d and %d elements are not missed at %d, together %d", l, text, least, one[i], other[i], i, all[i])
					}
				}
			}
		}
	}
}

func TestLeafThatIsNotRightOrNotPlain(t *testing.T) {
	// This error comes first, whatever the size and least, and however long the text.
	for _, l := range append(notRight(), notPlain()...) {
		for _, text := range []string{"", "a", "abab", strings.Repeat("a", 65), strings.Repeat("ab", 200)} {
			for _, size := range append(sizesOf(1), noSizes...) {
				for _, least := range []int{-1, 1, 2, 65} {
					checkErrors(t, l, text, size, least, api.ErrMatchForm)
				}
			}
		}
	}
	// Of the same lengths, with all else as it may be, there are counts.
	checkBoth(t, row(0, times(64, a)...), strings.Repeat("a", 65), 64, 64, 15, 0, 0)
	checkBoth(t, row(0, a), "ab", 1, 1, 15, 0, 1)
	checkBoth(t, row(64, a), "ab", 1, 2, 0, 0, 1)
	checkBoth(t, row(0, full), "ab", 0, 1, 0, 0, 0)
}

func TestSizesThatMayBe(t *testing.T) {
	for m := 1; m <= 64; m++ {
		l := pattern(written(m, m, "aab?"), m/3)
		sizes := sizesOf(m)
		for _, n := range []int{m, m + 1, m + 40} {
			for _, least := range []int{1, 2, m} {
				check(t, l, written(m, n, "abc"), sizes[0], least)
			}
		}
		if m == 1 || m == 2 || m == 3 || m == 33 || m == 64 {
			for _, size := range sizes {
				check(t, l, written(m, 100, "abc"), size, 2)
			}
		}
	}
	for _, size := range []int{4, 8, 4096} {
		check(t, pattern("abca", 1), "abcabca", size, 2)
		check(t, pattern("aba", 1), "abcabca", size, 1)
	}
}

func TestSizesThatMayNotBe(t *testing.T) {
	for m := 1; m <= 64; m++ {
		refused := append(slices.Clone(noSizes), sizesOf(m)[0]-1, m-1, -m, 4097, 8192)
		for size := 1; size < m; size *= 2 {
			refused = append(refused, size)
		}
		l := row(0, append(times(m-1, a), b)...)
		for _, n := range []int{m, m + 1, m + 100} {
			text := strings.Repeat("a", n)
			for _, size := range refused {
				if slices.Contains(sizesOf(m), size) {
					continue
				}
				// Where some kind is frequent.
				checkErrors(t, l, text, size, 1, api.ErrBlockSize)
				checkErrors(t, withK(l, 64), text, size, min(1, m-1), api.ErrBlockSize)
				checkErrors(t, row(0, times(m, a)...), text, size, m, api.ErrBlockSize)
				// Where none is.
				check(t, l, text, size, max(2, m))
				check(t, row(0, times(m, a)...), text, size, m+1)
				check(t, row(0, times(m, full)...), text, size, math.MinInt)
			}
		}
	}
	checkErrors(t, pattern("abca", 1), "abcabca", 3, 2, api.ErrBlockSize)
	checkErrors(t, pattern("abca", 1), "abcabca", 2, 1, api.ErrBlockSize)
	checkErrors(t, pattern("a???", 1), "abcabca", 2, 1, api.ErrBlockSize)
	checkBoth(t, pattern("abca", 1), "abcabca", 3, 3, 0, 0, 4, 4, 0)
	checkBoth(t, pattern("a", 0), "ab", 0, 2, 0, 0, 1)
	checkBoth(t, pattern("ab", 0), "ab", math.MinInt, math.MaxInt, 0, 0)
}

func TestNoSizeIsRefusedWhereTheLeafIsLonger(t *testing.T) {
	for _, size := range append(sizesOf(1), noSizes...) {
		for _, m := range []int{1, 2, 3, 4, 5, 17, 32, 33, 63, 64} {
			for _, n := range []int{0, m / 2, m - 1} {
				text := strings.Repeat("a", n)
				for _, least := range []int{-1, 1, 2, 65} {
					checkBoth(t, row(0, times(m, a)...), text, size, least, 0)
					checkBoth(t, row(64, times(m, full)...), text, size, least, 0)
					checkBoth(t, different(m, m), text, size, least, 0)
				}
			}
		}
	}
	checkBoth(t, pattern("abc", 3), "ab", 0, 1, 0)
	checkBoth(t, pattern("a", 1), "", 4096, 1, 0)
}

func TestHowManyTransforms(t *testing.T) {
	// Written out once: 3, and 6 for each block, for each frequent kind.
	text := strings.Repeat("ab", 5)
	for _, y := range []struct{ m, size, each int }{
		{1, 1, 63}, {1, 2, 33}, {1, 4, 21}, {1, 8, 15}, {1, 16, 9}, {1, 4096, 9},
		{2, 2, 57}, {2, 4, 21}, {2, 8, 15}, {2, 16, 9},
		{4, 4, 45}, {4, 8, 15}, {5, 8, 15}, {8, 8, 21}, {9, 16, 9}, {10, 16, 9}, {10, 4096, 9}, {11, 16, 0}, {64, 64, 0},
	} {
		for all := range y.m + 1 {
			// The last elements are of the first kind anew, or free, if there is no kind.
			l := row(0, times(y.m, full)...)
			for at := range y.m {
				if all > 0 {
					l.P[at] = alone(byte(at))
				}
				if at >= all && all > 0 {
					l.P[at] = alone(0)
				}
			}
			for _, least := range []int{0, 1} {
				checkTransforms(t, l, text, y.size, least, all*y.each)
			}
			// More than once at most the first kind stands.
			if all > 0 && all < y.m {
				checkTransforms(t, l, text, y.size, 2, y.each)
				checkTransforms(t, l, text, y.size, y.m-all+1, y.each)
			}
			checkTransforms(t, l, text, y.size, max(2, y.m-all+2), 0)
		}
	}
	l := pattern("aab?bbc", 0)
	for least, want := range []int{45, 45, 30, 15, 0} {
		checkTransforms(t, l, text, 8, least, want)
	}
	// They hang on no byte of the text, on no K, and not on whether a kind is met.
	for _, other := range []string{text, strings.Repeat("z", 10), strings.Repeat("\x00", 10)} {
		for k := range 65 {
			checkTransforms(t, withK(l, k), other, 8, 2, 30)
		}
	}
}

// checkTransforms holds how many transforms Counts and Find tell against the number that is asked.
func checkTransforms(t *testing.T, l api.Leaf, text string, size, least, want int) {
	t.Helper()
	_, number, errno := Counts(l, text, size, least)
	_, again, errnoToo := Find(l, text, size, least)
	if number != want || again != want || errno != api.OK || errnoToo != api.OK {
		t.Errorf("P12.2: %v in %d bytes, size %d, least %d, takes %d, %d transforms, %d, %d, not %d", l, len(text), size, least, number, again, errno, errnoToo, want)
	}
}

func TestSamples(t *testing.T) {
	for i, l := range plain() {
		// All sizes take long: one text takes each, and the least one only where few kinds are slid.
		sizes := sizesOf(len(l.P))
		for _, text := range texts() {
			for _, least := range []int{2, 3, 65} {
				check(t, l, text, sizes[0], least)
			}
		}
		if len(leaf.Kinds(l)) <= 5 {
			text := written(i, 60+i, "abc\x00\xff")
			for _, size := range sizes {
				check(t, l, text, size, 1)
				check(t, l, text, size, 3)
			}
		}
	}
}

func TestElementByElementIsTheSame(t *testing.T) {
	for _, l := range plain() {
		size := sizesOf(len(l.P))[1]
		for _, text := range []string{"", "abca", strings.Repeat("ab", 40), written(3, 130, "aaabcx"), rising()} {
			wantCounts, wantPlaces := naive.Counts(l, text), naive.Find(l, text)
			for _, least := range leasts {
				if got, _, errno := Counts(l, text, size, least); !slices.Equal(got, wantCounts) || errno != api.OK {
					t.Errorf("P12.2: Counts of %v in %q, size %d, least %d, are %v, %d, element by element %v", l, text, size, least, got, errno, wantCounts)
				}
				if got, _, errno := Find(l, text, size, least); !slices.Equal(got, wantPlaces) || errno != api.OK {
					t.Errorf("P12.2: Find of %v in %q, size %d, least %d, tells %v, %d, element by element %v", l, text, size, least, got, errno, wantPlaces)
				}
			}
		}
	}
}

func TestGreaterLeastTakesFewerTransforms(t *testing.T) {
	for i, l := range plain() {
		text, size := written(i, 100, "abcx"), 64
		// With all kinds frequent it takes as many as kind by kind, with none none.
		_, before, _ := symb.Counts(l, text, size)
		for _, least := range leasts {
			counts, number, errno := Counts(l, text, size, least)
			if !slices.Equal(counts, countsOf(l, text)) || errno != api.OK {
				t.Errorf("P12.3: Counts of %v in %q, least %d, are %v, %d", l, text, least, counts, errno)
			}
			if least <= 1 && number != before || number > before || least > 64 && number != 0 {
				t.Errorf("P12.3: with least %d it takes %d transforms to count %v, with a lesser one %d", least, number, l, before)
			}
			before = number
		}
	}
}

func TestHowKDecides(t *testing.T) {
	for _, least := range []int{1, 2, 3} {
		for _, y := range []struct {
			s    string
			k    int
			text string
			want []int
		}{
			{"ab", 0, "abbb", []int{0}}, {"ab", 1, "abbb", []int{0, 1, 2}},
			{"ab", 0, "baxab", []int{3}}, {"ab", 1, "baxab", []int{1, 3}}, {"ab", 2, "baxab", []int{0, 1, 2, 3}}, {"ab", 64, "baxab", []int{0, 1, 2, 3}},
			{"c", 0, "abab", nil}, {"aa", 0, "aaaa", []int{0, 1, 2}}, {"aab", 0, "aaab", []int{1}}, {"aab", 1, "aaab", []int{0, 1}},
			// The text's end and its beginning together are no place.
			{"ba", 0, "ab", nil},
		} {
			if got, _, errno := Find(pattern(y.s, y.k), y.text, 8, least); !slices.Equal(got, y.want) || errno != api.OK {
				t.Errorf("P12.2: Find of %q with K %d in %q, least %d, tells %v, %d, not %v", y.s, y.k, y.text, least, got, errno, y.want)
			}
		}
	}
	// Counts hang not on K; Find tells what is K at most.
	l, text := pattern("aab?bca", 0), written(6, 200, "abcx")
	for k := range 65 {
		for _, least := range []int{1, 2, 3, 4} {
			check(t, withK(l, k), text, 16, least)
		}
	}
	for _, k := range []int{math.MinInt, -1, 65, math.MaxInt} {
		checkErrors(t, withK(l, k), text, 16, 2, api.ErrMatchForm)
	}
}

func TestFreeElements(t *testing.T) {
	// Alone: no kinds, no transforms, no size refused, and nothing missed.
	for _, m := range []int{1, 2, 3, 63, 64} {
		for _, text := range texts() {
			zeros := make([]int, max(0, len(text)-m+1))
			checkBoth(t, row(0, times(m, full)...), text, 64, 1, 0, zeros...)
			checkBoth(t, row(64, times(m, full)...), text, 0, -1, 0, zeros...)
		}
	}
	// At the beginning, in the middle, at the end; the bound ones are frequent, or rare, or both.
	for least, frequent := range map[int]int{1: 2, 2: 1, 3: 0} {
		checkBoth(t, pattern("?aab", 1), "xaabaab\xff", 8, least, 9*frequent, 0, 2, 2, 0, 2)
		checkBoth(t, pattern("aa?b", 1), "xaabaab\xff", 8, least, 9*frequent, 1, 1, 2, 1, 1)
		checkBoth(t, pattern("aab?", 1), "xaabaab\xff", 8, least, 9*frequent, 2, 0, 2, 2, 0)
		checkBoth(t, pattern("?a?ab?", 1), "xaaabaab\xff", 8, least, 15*frequent, 0, 2, 1, 1)
	}
	for at := range 64 {
		text := []byte(strings.Repeat("a", 65))
		text[at] = 'b'
		checkBoth(t, with(row(0, times(64, full)...), at, b), string(text), 64, 1, 15, 0, 1)
		checkBoth(t, with(row(0, times(64, full)...), at, b), string(text), 64, 2, 0, 0, 1)
		checkBoth(t, with(row(0, times(64, a)...), at, full), string(text)[:64], 64, 63, 9, 0)
		checkBoth(t, with(row(0, times(64, a)...), at, full), string(text)[:64], 64, 64, 0, 0)
	}
}

func TestOneKindEverywhereAndManyKinds(t *testing.T) {
	for _, m := range []int{1, 2, 63, 64} {
		size, n := sizesOf(m)[0], m+3
		text := strings.Repeat("a", n)
		for _, least := range []int{1, m, m + 1} {
			number := 0
			if least <= m {
				number = block.Count(m, n, size)
			}
			checkBoth(t, row(0, times(m, a)...), text, size, least, number, 0, 0, 0, 0)
			checkBoth(t, row(m, times(m, b)...), text, size, least, number, m, m, m, m)
			checkBoth(t, row(m-1, times(m, b)...), text, size, least, number, m, m, m, m)
			checkBoth(t, row(0, times(m, a)...), text[1:]+"b", size, least, number, 0, 0, 0, 1)
			checkBoth(t, row(0, times(m, a)...), "b"+text[1:], size, least, number, 1, 0, 0, 0)
		}
	}
	// As many kinds as elements.
	for _, m := range []int{1, 2, 3, 31, 64} {
		l, text, size := different(m, 0), rising()[:m], sizesOf(m)[0]
		for least, frequent := range map[int]int{1: m, 2: 0} {
			checkBoth(t, l, text, size, least, 9*frequent, 0)
			checkBoth(t, l, text+"\xff", size, least, frequent*block.Count(m, m+1, size), 0, m)
			checkBoth(t, l, "\xff"+text, size, least, frequent*block.Count(m, m+1, size), m, 0)
			for at := range m {
				checkBoth(t, l, text[:at]+"\xff"+text[at+1:], size, least, 9*frequent, 1)
			}
		}
	}
}

func TestAllShortLeavesInAllShortTexts(t *testing.T) {
	for _, s := range every(3, "ab?")[1:] {
		for _, text := range every(5, "abc") {
			l := pattern(s, (len(text)+len(s))%3)
			for least := range 4 {
				check(t, l, text, 4, least)
			}
		}
	}
}

func TestTextInTwoPieces(t *testing.T) {
	for i, l := range plain() {
		over := len(l.P) - 1
		for _, lengths := range [][2]int{{0, 80}, {80, 0}, {1, 1}, {1, 80}, {80, 1}, {over, over}, {over + 1, over + 2}, {70, 90}, {5, 40}} {
			one, other := written(i, lengths[0], "abcx"), written(i+1, lengths[1], "aabc")
			// Between stand the leaves that reach from one piece into the other one.
			between := one[max(0, len(one)-over):] + other[:min(over, len(other))]
			for _, least := range []int{2, 3, 65} {
				whole, _, _ := Counts(l, one+other, 128, least)
				first, _, _ := Counts(l, one, 64, least)
				second, _, _ := Counts(l, between, 128, least)
				third, _, _ := Counts(l, other, 64, least)
				if !slices.Equal(whole, slices.Concat(first, second, third)) {
					t.Errorf("P12.2: Counts of %v in %q and %q, least %d, are %v, in pieces %v, %v, %v", l, one, other, least, whole, first, second, third)
				}
			}
			some := leaf.Kinds(l)
			if !slices.Equal(Rare(l, one+other, some), slices.Concat(Rare(l, one, some), Rare(l, between, some), Rare(l, other, some))) {
				t.Errorf("P12.1: Rare of %v in %q and %q is not that of the pieces", l, one, other)
			}
		}
	}
}

func TestLongText(t *testing.T) {
	text := written(7, api.MaxText, "abcx")
	l := pattern("aab?bxacca", 5)
	counts, found := countsOf(l, text), naive.Find(l, text)
	if len(found) == 0 || len(found) == len(counts) {
		t.Fatalf("the long text tells nothing: %d of %d places", len(found), len(counts))
	}
	for _, size := range []int{64, 4096} {
		for least, frequent := range map[int]int{1: 4, 2: 3, 4: 1, 5: 0} {
			number := frequent * block.Count(10, len(text), size)
			if got, took, errno := Counts(l, text, size, least); !slices.Equal(got, counts) || took != number || errno != api.OK {
				t.Errorf("P12.2: Counts in a long text, size %d, least %d, are wrong, or tell %d transforms, not %d", size, least, took, number)
			}
			if got, took, errno := Find(l, text, size, least); !slices.Equal(got, found) || took != number || errno != api.OK {
				t.Errorf("P12.2: Find in a long text, size %d, least %d, is wrong, or tells %d transforms, not %d", size, least, took, number)
			}
		}
	}
}

func TestWhatIsGivenStays(t *testing.T) {
	for _, l := range slices.Concat(plain(), notPlain(), notRight()) {
		// What lies behind the elements, and the kinds, in their memory is not theirs.
		memory := append(slices.Clone(l.P), ends, ab, ends)
		given := api.Leaf{P: memory[:len(l.P)], K: l.K}
		before := slices.Clone(memory)
		some := kinds(b, a, full, b, ends, ab)
		for _, text := range []string{"", "abab", strings.Repeat("ab", 40)} {
			for _, least := range []int{1, 2, 65} {
				Counts(given, text, 64, least)
				Counts(given, text, 0, least)
				Find(given, text, 64, least)
				Parts(given, least)
			}
			Rare(given, text, some[:4])
			Rare(given, text, given.P)
		}
		if !slices.Equal(memory, before) || given.K != l.K || len(given.P) != len(l.P) {
			t.Errorf("R5: the calls change %v", before)
		}
		if !slices.Equal(some, kinds(b, a, full, b, ends, ab)) {
			t.Errorf("R5: Rare changes the kinds to %v", some)
		}
	}
}

// spoil writes into a list, and behind it.
func spoil[T int | api.Class](l []T) {
	var zero T
	for i := range l {
		l[i] = zero
	}
	_ = append(l, zero, zero, zero)
}

func TestWhatIsToldIsTheCallersOwn(t *testing.T) {
	l, text := pattern("abca?b", 2), "abcaabxabbcab"
	wantFrequent, wantRare := kinds(a, b), kinds(c)
	wantKept, wantCounts := rareOf(l, text, wantRare), countsOf(l, text)
	wantFound := hitsOf(wantCounts, 2)
	// What one answer's row is told to be hangs not on the other one.
	frequent, rare := Parts(l, 2)
	spoil(frequent)
	if !slices.Equal(rare, wantRare) {
		t.Errorf("R6: to write into the frequent kinds makes the rare ones %v", rare)
	}
	frequent, rare = Parts(l, 2)
	spoil(rare)
	if !slices.Equal(frequent, wantFrequent) {
		t.Errorf("R6: to write into the rare kinds makes the frequent ones %v", frequent)
	}
	some := slices.Clone(wantRare)
	kept, counts, found := Rare(l, text, some), ask(l, text, Counts), ask(l, text, Find)
	frequent, rare = Parts(l, 2)
	spoil(Rare(l, text, some))
	spoil(ask(l, text, Counts))
	spoil(ask(l, text, Find))
	checkParts(t, l, 2, wantFrequent, wantRare)
	checkRare(t, l, text, some, wantKept...)
	checkBoth(t, l, text, 8, 2, transformsOf(l, len(text), 8, 2), wantCounts...)
	// Nor is what was told a view of what was given.
	spoil(l.P)
	spoil(some)
	if !slices.Equal(frequent, wantFrequent) || !slices.Equal(rare, wantRare) || !slices.Equal(kept, wantKept) || !slices.Equal(counts, wantCounts) || !slices.Equal(found, wantFound) {
		t.Error("R6: to write into what was given, or what another call told of it, changes what was told")
	}
}

// ask tells the row of Counts, or of Find, of size 8 and least 2.
func ask(l api.Leaf, text string, call func(l api.Leaf, t string, size, least int) ([]int, int, api.Errno)) []int {
	told, _, _ := call(l, text, 8, 2)
	return told
}

func TestTheSameIsToldAlways(t *testing.T) {
	l, text := pattern("xabca?bcaabz", 6), written(3, 200, "abcx")
	frequent, rare := partsOf(l, 2)
	kept, counts, number := rareOf(l, text, rare), countsOf(l, text), transformsOf(l, 200, 32, 2)
	for range 30 {
		// Calls between that tell something else, or errors, leave no trace.
		Counts(pattern("zz", 0), "azzz", 8, 1)
		Find(pattern("b", 1), "abb", 1, 2)
		Counts(row(0, none), "abb", 1, 1)
		Find(row(0, ab), "abb", 0, 1)
		Counts(l, text, 3, 1)
		Rare(l, "zzzzzzzzzzzzzzz", frequent)
		checkParts(t, l, 2, frequent, rare)
		checkRare(t, l, text, rare, kept...)
		checkBoth(t, l, text, 32, 2, number, counts...)
	}
	// The same elements, and bytes, in other memory are the same.
	other := api.Leaf{P: append(make([]api.Class, 0, 100), l.P...), K: l.K}
	checkParts(t, other, 2, frequent, rare)
	checkRare(t, other, (text + "ab")[:200], slices.Clone(rare), kept...)
	checkBoth(t, other, strings.Clone(text), 32, 2, number, counts...)
}

func TestExamples(t *testing.T) {
	checkParts(t, leaf.Text("abca", 0), 2, kinds(class.Of("a")), kinds(class.Of("b"), class.Of("c")))
	checkBoth(t, leaf.Text("abca", 1), "abcabca", 8, 2, 9, 0, 4, 4, 0)
	checkBoth(t, leaf.Text("abca", 1), "abcabca", 0, 3, 0, 0, 4, 4, 0)
}
