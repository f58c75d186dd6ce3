package naive

import (
	"math"
	"slices"
	"strings"
	"testing"

	"beagle/api"
	"beagle/class"
	"beagle/leaf"
)

// The elements of the samples: of one byte, of more, of none, of all.
var (
	a    = alone('a')
	b    = alone('b')
	c    = alone('c')
	ab   = api.Class{0, 1<<('a'-64) | 1<<('b'-64), 0, 0}
	low  = api.Class{^uint64(0), ^uint64(0), 0, 0}
	high = api.Class{0, 0, ^uint64(0), ^uint64(0)}
	ends = api.Class{1, 0, 0, 1 << 63}
	full = api.Class{^uint64(0), ^uint64(0), ^uint64(0), ^uint64(0)}
	none = api.Class{}
)

// far are numbers that are no places, or seldom ones.
var far = []int{math.MinInt, math.MinInt + 1, -1 << 32, -65, -2, -1, 64, 65, 1 << 32, math.MaxInt - 64, math.MaxInt - 1, math.MaxInt}

// alone is the class of one byte, laid into words, as api says.
func alone(x byte) api.Class {
	var element api.Class
	element[x/64] = 1 << (x % 64)
	return element
}

func row(k int, elements ...api.Class) api.Leaf { return api.Leaf{P: elements, K: k} }

func times(n int, element api.Class) []api.Class {
	return slices.Repeat([]api.Class{element}, n)
}

// withK is l with another K.
func withK(l api.Leaf, k int) api.Leaf {
	l.K = k
	return l
}

// with is l with another element at one place.
func with(l api.Leaf, at int, element api.Class) api.Leaf {
	l.P = slices.Clone(l.P)
	l.P[at] = element
	return l
}

// numbers are n numbers below most, always the same ones for one seed.
func numbers(seed, n, most int) []int {
	x := uint64(88172645463325252) + uint64(seed)*2654435761
	l := make([]int, n)
	for i := range l {
		x ^= x << 13
		x ^= x >> 7
		x ^= x << 17
		l[i] = int(x>>33) % most
	}
	return l
}

// mixed is a leaf of n elements out of some.
func mixed(seed, n, k int, some ...api.Class) api.Leaf {
	l := api.Leaf{K: k}
	for _, x := range numbers(seed, n, len(some)) {
		l.P = append(l.P, some[x])
	}
	return l
}

// written is a text of n bytes out of some.
func written(seed, n int, some string) string {
	t := make([]byte, n)
	for i, x := range numbers(seed, n, len(some)) {
		t[i] = some[x]
	}
	return string(t)
}

// has reads a class's bits, as api says of its words.
func has(element api.Class, x byte) bool {
	return element[x/64]&(1<<(x%64)) != 0
}

// countsOf tells by the definition how many elements l misses, where it stands.
func countsOf(l api.Leaf, text string) []int {
	if !isRight(l) {
		return nil
	}
	var counts []int
	for i := 0; i <= len(text)-len(l.P); i++ {
		count := 0
		for j := range l.P {
			if !has(l.P[j], text[i+j]) {
				count++
			}
		}
		counts = append(counts, count)
	}
	return counts
}

func isRight(l api.Leaf) bool {
	return 1 <= len(l.P) && len(l.P) <= 64 && !slices.Contains(l.P, none) && 0 <= l.K && l.K <= 64
}

// hitsOf tells the places of the counts that are k at most.
func hitsOf(counts []int, k int) []int {
	var places []int
	for i := range len(counts) {
		if !(counts[i] > k) {
			places = append(places, i)
		}
	}
	return places
}

// wrong are leaves that are not right, each for one cause, but the last ones.
func wrong() []api.Leaf {
	return []api.Leaf{
		{}, {P: []api.Class{}}, {K: 1}, {K: 64}, leaf.Text("", 0),
		row(0, times(65, a)...), row(0, times(65, full)...), row(64, times(66, ab)...), row(1, times(300, a)...),
		row(0, none), row(1, none), row(64, none), row(2, none, none),
		row(0, none, a, b), row(1, a, none, b), row(3, a, b, none), row(64, with(row(0, times(64, full)...), 63, none).P...),
		row(-1, a), row(-1, a, b), row(-1, full), row(-64, a, b), row(math.MinInt, a),
		row(65, a), row(65, a, b), row(65, full), row(65, times(64, a)...), row(1000, a), row(math.MaxInt, a),
		row(-1), row(65, none), row(-1, times(65, none)...),
	}
}

// right are leaves at the edges and ordinary ones.
func right() []api.Leaf {
	leaves := []api.Leaf{
		row(0, a), row(1, a), row(64, a), row(0, full), row(0, ab), row(0, ends), row(0, alone(0)), row(0, alone(255)),
		row(0, a, b), row(1, a, b), row(2, a, b), row(3, a, b), row(0, a, a), row(0, a, b, c), row(2, c, b, a),
		row(1, ab, full, c), row(0, full, a), row(0, a, full), row(0, full, full, full), row(1, full, a, full, b),
		row(0, low, high), row(1, high, low), row(0, alone(127), alone(128)), row(1, alone(255), alone(0), ends),
		row(0, times(63, a)...), row(0, times(64, a)...), row(64, times(64, b)...), row(0, times(64, full)...),
	}
	for seed := range 12 {
		leaves = append(leaves,
			mixed(seed, 1+seed, seed%4, a, b, c, full),
			mixed(seed, 2+seed%3, seed%3, a, b),
			mixed(seed, 64, 40+seed, a, b, ab, full, low),
			mixed(seed, 5, seed%5, ab, low, high, ends, full))
	}
	return leaves
}

// texts are at the edges and ordinary; bytes that are no runes are among them.
func texts() []string {
	all := []string{
		"", "a", "b", "ab", "ba", "aa", "abc", "abab", "abbb", "aaaa", "axcbbx", "abcabcab",
		"\x00", "\xff", "\x7f\x80", "\x00\x7f\x80\xff\x00\xff", "\x80\x80\x81", "\xc3", "a\x80b\xffab", "\xed\xa0\x80ab", "\xf0\x9fab",
		"é", "日本ab", "x😀y", "\ufffdab",
		strings.Repeat("a", 62), strings.Repeat("a", 63), strings.Repeat("a", 64), strings.Repeat("a", 65),
		strings.Repeat("ab", 40), strings.Repeat("a", 63) + "b" + strings.Repeat("a", 64),
	}
	for seed := range 6 {
		all = append(all, written(seed, 20+seed*17, "ab"), written(seed, 90, "abcx"), written(seed, 100, "\x00\x7f\x80\xffab"))
	}
	return all
}

// checkAt holds At at one place against what is asked.
func checkAt(t *testing.T, l api.Leaf, text string, at, want int, wantIs bool) {
	t.Helper()
	if got, is := At(l, text, at); got != want || is != wantIs {
		t.Errorf("P8.1: At of %v in %q at %d is %d, %v, not %d, %v", l, text, at, got, is, want, wantIs)
	}
}

// check holds each call that takes a leaf and a text against the counts that are asked.
func check(t *testing.T, l api.Leaf, text string, want ...int) {
	t.Helper()
	if got := Counts(l, text); !slices.Equal(got, want) {
		t.Errorf("P8.1: Counts of %v in %q are %v, not %v", l, text, got, want)
	}
	for at := -2; at <= len(text)+2; at++ {
		if at >= 0 && at < len(want) {
			checkAt(t, l, text, at, want[at], true)
		} else {
			checkAt(t, l, text, at, 0, false)
		}
	}
	for _, at := range far {
		if at < 0 || at >= len(want) {
			checkAt(t, l, text, at, 0, false)
		}
	}
	found := hitsOf(want, l.K)
	if got := Find(l, text); !slices.Equal(got, found) {
		t.Errorf("P8.1: Find of %v in %q tells %v, not %v", l, text, got, found)
	}
	if got := Hits(Counts(l, text), l.K); !slices.Equal(got, found) {
		t.Errorf("P8.1: Hits of Counts of %v in %q are %v, not %v", l, text, got, found)
	}
	for from := -2; from <= len(text)+2; from++ {
		checkFirst(t, l, text, from, found)
	}
	for _, from := range far {
		checkFirst(t, l, text, from, found)
	}
}

// checkFirst holds First against the places that are found, rising.
func checkFirst(t *testing.T, l api.Leaf, text string, from int, found []int) {
	t.Helper()
	want, wantIs := 0, false
	for _, place := range slices.Backward(found) {
		if place >= from {
			want, wantIs = place, true
		}
	}
	if got, is := First(l, text, from); got != want || is != wantIs {
		t.Errorf("P8.1: First of %v in %q from %d is %d, %v, not %d, %v", l, text, from, got, is, want, wantIs)
	}
}

func TestAtTheEdgesOfAText(t *testing.T) {
	l := row(0, a, b)
	text := "abxab"
	checkAt(t, l, text, 0, 0, true)
	checkAt(t, l, text, 1, 2, true)
	checkAt(t, l, text, 2, 2, true)
	checkAt(t, l, text, 3, 0, true)
	checkAt(t, l, text, 4, 0, false)
	checkAt(t, l, text, 5, 0, false)
	checkAt(t, l, text, 6, 0, false)
	checkAt(t, l, text, -1, 0, false)
	checkAt(t, l, text, math.MinInt, 0, false)
	checkAt(t, l, text, math.MaxInt, 0, false)
	// A last place at which something is missed is one still.
	checkAt(t, row(2, b, a), text, 3, 2, true)
	checkAt(t, row(2, b, a), text, 4, 0, false)
}

func TestLeafThatIsNotRightStandsNowhere(t *testing.T) {
	long := []string{strings.Repeat("a", 65), strings.Repeat("ab", 50), strings.Repeat("a", 400)}
	for _, l := range wrong() {
		for _, text := range append(texts(), long...) {
			check(t, l, text)
		}
	}
	// The same elements, right, do stand.
	check(t, row(0, times(64, a)...), strings.Repeat("a", 65), 0, 0)
	check(t, row(64, a), "ab", 0, 1)
	check(t, row(0, a), "ab", 0, 1)
}

func TestLeafAndTextOfAllLengths(t *testing.T) {
	check(t, row(0, a, b, c), "")
	check(t, row(0, a), "")
	check(t, row(64, full), "")
	check(t, row(3, a, b, c), "ab")
	check(t, row(3, full, full), "a")
	check(t, row(0, a, b, c), "abc", 0)
	check(t, row(0, a, b, c), "abd", 1)
	check(t, row(0, a, b, c), "abcd", 0, 3)
	check(t, row(0, a, b, c), "dabc", 3, 0)
	check(t, row(0, a), "a", 0)
	check(t, row(0, a), "b", 1)
	for m := 1; m <= 64; m++ {
		for n := range 70 {
			places := max(0, n-m+1)
			l := row(0, times(m, a)...)
			check(t, l, strings.Repeat("a", n), make([]int, places)...)
			check(t, l, strings.Repeat("b", n), slices.Repeat([]int{m}, places)...)
		}
	}
}

func TestWhatIsMissed(t *testing.T) {
	l := leaf.Text("abcba", 0)
	check(t, l, "abcba", 0)
	check(t, l, "xbcba", 1)
	check(t, l, "abxba", 1)
	check(t, l, "abcbx", 1)
	check(t, l, "xbcbx", 2)
	check(t, l, "xxxxx", 5)
	check(t, l, "abcbabcba", 0, 5, 3, 5, 0)
	long := leaf.Text(strings.Repeat("a", 64), 0)
	for at := range 64 {
		text := []byte(strings.Repeat("a", 64))
		text[at] = 'b'
		check(t, long, string(text), 1)
		check(t, with(long, at, b), strings.Repeat("a", 64), 1)
		check(t, with(long, at, b), string(text), 0)
		check(t, withK(long, 1), string(text), 1)
	}
}

func TestFreeAndWideElements(t *testing.T) {
	check(t, row(0, full), "ab\x00\xff", 0, 0, 0, 0)
	check(t, row(0, full, full), "ab\x80", 0, 0)
	check(t, row(0, full, a), "aab", 0, 1)
	check(t, row(0, a, full), "aba", 0, 1)
	check(t, row(0, a, full, b), "axbab", 0, 2, 1)
	check(t, row(1, ab, full, c), "axcbbx", 0, 2, 2, 1)
	check(t, row(0, ab, ab), "abcab", 0, 1, 1, 0)
	check(t, row(0, class.Not(a)), "ab", 1, 0)
	check(t, row(0, times(64, full)...), strings.Repeat("\xff", 66), 0, 0, 0)
	check(t, with(row(0, times(64, full)...), 63, a), strings.Repeat("a", 64)+"b", 0, 1)
}

func TestAllBytes(t *testing.T) {
	check(t, row(0, alone(0)), "\x00\x7f\x80\xff", 0, 1, 1, 1)
	check(t, row(0, alone(127)), "\x00\x7f\x80\xff", 1, 0, 1, 1)
	check(t, row(0, alone(128)), "\x00\x7f\x80\xff", 1, 1, 0, 1)
	check(t, row(0, alone(255)), "\x00\x7f\x80\xff", 1, 1, 1, 0)
	check(t, row(0, ends), "\x00\x7f\x80\xff", 0, 1, 1, 0)
	check(t, row(0, low, high), "\x7f\x80\xff\x00", 0, 1, 2)
	check(t, leaf.Text("\x80\xff", 0), "a\x80\xff\xfe\x80", 2, 0, 2, 2)
	// Places are those of bytes, where these are runes, are none, or are parts of one.
	check(t, leaf.Text("b", 0), "éb", 1, 1, 0)
	check(t, leaf.Text("\xa9", 0), "éb", 1, 0, 1)
	check(t, leaf.Text("本", 0), "日本", 2, 3, 3, 0)
	check(t, leaf.Text("\ufffd", 0), "\xef\xbf\xbd\x80\x80\x80", 0, 3, 3, 3)
	check(t, leaf.Text("b", 0), "\xed\xa0\x80b", 1, 1, 1, 0)
	for x := range 256 {
		for y := range 256 {
			got, is := At(row(0, alone(byte(x))), string([]byte{byte(y)}), 0)
			if !is || (got == 0) != (x == y) || got > 1 {
				t.Errorf("P8.1: At of the byte %d in the byte %d is %d, %v", x, y, got, is)
			}
		}
	}
}

func TestSamples(t *testing.T) {
	for _, l := range append(right(), wrong()...) {
		for _, text := range texts() {
			check(t, l, text, countsOf(l, text)...)
		}
	}
}

func TestHowManyCounts(t *testing.T) {
	for _, l := range right() {
		for _, text := range texts() {
			if got, want := len(Counts(l, text)), max(0, len(text)-len(l.P)+1); got != want {
				t.Errorf("P8.1: %d elements in %d bytes have %d Counts", len(l.P), len(text), got)
			}
		}
	}
}

func TestCountsHangNotOnK(t *testing.T) {
	for _, l := range right() {
		for _, text := range texts() {
			want := countsOf(withK(l, 0), text)
			for _, k := range []int{0, 1, 2, 3, len(l.P) - 1, len(l.P), 63, 64} {
				if got := Counts(withK(l, k), text); !slices.Equal(got, want) {
					t.Errorf("P8.1: Counts of %v in %q with K %d are %v", l.P, text, k, got)
				}
				for at := range want {
					checkAt(t, withK(l, k), text, at, want[at], true)
				}
			}
		}
	}
	// What goes beyond K is counted to the end.
	if got := Counts(row(0, times(64, a)...), strings.Repeat("b", 65)); !slices.Equal(got, []int{64, 64}) {
		t.Errorf("P8.1: Counts of 64 misses with K 0 are %v", got)
	}
	checkAt(t, row(0, times(64, a)...), strings.Repeat("b", 64), 0, 64, true)
	checkAt(t, row(1, a, b, c), "xyz", 0, 3, true)
}

func checkHits(t *testing.T, counts []int, k int, want ...int) {
	t.Helper()
	if got := Hits(counts, k); !slices.Equal(got, want) {
		t.Errorf("P8.1: Hits of %v and %d are %v, not %v", counts, k, got, want)
	}
}

func TestHits(t *testing.T) {
	for _, k := range append([]int{0, 1, 2}, far...) {
		checkHits(t, nil, k)
		checkHits(t, []int{}, k)
	}
	checkHits(t, []int{3, 4, 5}, 2)
	checkHits(t, []int{2, 2, 2}, 2, 0, 1, 2)
	checkHits(t, []int{0, 1, 1}, 2, 0, 1, 2)
	checkHits(t, []int{3, 2, 1, 2, 3}, 2, 1, 2, 3)
	checkHits(t, []int{2, 9, 9, 2}, 2, 0, 3)
	checkHits(t, []int{9, 2, 9}, 2, 1)
	checkHits(t, []int{0, 0, 1}, 0, 0, 1)
	checkHits(t, []int{0, 1, 2}, -1)
	checkHits(t, []int{0, -1, -2, 1}, -1, 1, 2)
	checkHits(t, []int{-5, 5, -5}, 0, 0, 2)
	checkHits(t, []int{0, -1, math.MinInt, math.MaxInt}, math.MinInt, 2)
	checkHits(t, []int{0, math.MinInt + 1}, math.MinInt)
	checkHits(t, []int{0, math.MaxInt, math.MinInt}, math.MaxInt, 0, 1, 2)
	checkHits(t, []int{0, math.MaxInt, math.MinInt}, math.MaxInt-1, 0, 2)
	checkHits(t, []int{math.MinInt, math.MaxInt}, 0, 0)
	for seed := range 40 {
		counts := numbers(seed, seed*3, 12)
		for i := range counts {
			counts[i] -= 4
		}
		for k := -6; k <= 10; k++ {
			checkHits(t, counts, k, hitsOf(counts, k)...)
		}
	}
}

func checkFind(t *testing.T, l api.Leaf, text string, want ...int) {
	t.Helper()
	if got := Find(l, text); !slices.Equal(got, want) {
		t.Errorf("P8.1: Find of %v in %q tells %v, not %v", l, text, got, want)
	}
}

func TestFindByK(t *testing.T) {
	text := "abcxbcaxxxyz"
	checkFind(t, leaf.Text("abc", 0), text, 0)
	checkFind(t, leaf.Text("abc", 1), text, 0, 3)
	checkFind(t, leaf.Text("abc", 2), text, 0, 3, 6)
	checkFind(t, leaf.Text("abc", 3), text, 0, 1, 2, 3, 4, 5, 6, 7, 8, 9)
	checkFind(t, leaf.Text("abc", 4), text, 0, 1, 2, 3, 4, 5, 6, 7, 8, 9)
	checkFind(t, leaf.Text("abc", 64), text, 0, 1, 2, 3, 4, 5, 6, 7, 8, 9)
	checkFind(t, leaf.Text("abc", 65), text)
	checkFind(t, leaf.Text("abc", -1), text)
	checkFind(t, leaf.Text("zzz", 0), text)
	checkFind(t, leaf.Text("abc", 64), "ab")
	// The element that is one too many may be the first, or the last.
	checkFind(t, leaf.Text("aaa", 2), "bbb")
	checkFind(t, leaf.Text("aaa", 2), "bba", 0)
	checkFind(t, leaf.Text("aaa", 1), "abb")
	checkFind(t, leaf.Text("aaa", 0), "aab")
	checkFind(t, leaf.Text("aaa", 0), "baa")
	for _, m := range []int{1, 2, 63, 64} {
		for k := range 65 {
			found := Find(row(k, times(m, a)...), strings.Repeat("b", m))
			if (len(found) == 1) != (k >= m) {
				t.Errorf("P8.1: Find of %d misses with K %d tells %v", m, k, found)
			}
		}
	}
}

func TestFirst(t *testing.T) {
	l, text := leaf.Text("ab", 0), "xabxabx"
	for _, x := range []struct {
		from, want int
		is         bool
	}{
		{math.MinInt, 1, true}, {-1 << 40, 1, true}, {-1, 1, true}, {0, 1, true},
		{1, 1, true}, {2, 4, true}, {3, 4, true}, {4, 4, true},
		{5, 0, false}, {6, 0, false}, {7, 0, false}, {8, 0, false}, {1 << 40, 0, false}, {math.MaxInt - 1, 0, false}, {math.MaxInt, 0, false},
	} {
		if got, is := First(l, text, x.from); got != x.want || is != x.is {
			t.Errorf("P8.1: First from %d is %d, %v, not %d, %v", x.from, got, is, x.want, x.is)
		}
	}
	// A place 0 that is found is told with true.
	for _, from := range []int{math.MinInt, -1, 0} {
		if got, is := First(l, "abx", from); got != 0 || !is {
			t.Errorf("P8.1: First from %d is %d, %v", from, got, is)
		}
	}
	if got, is := First(l, "abx", 1); got != 0 || is {
		t.Errorf("P8.1: First from behind the only place is %d, %v", got, is)
	}
	for _, nowhere := range []api.Leaf{leaf.Text("ba", 0), leaf.Text("xabxabxx", 64), leaf.Text("ab", -1), leaf.Text("ab", 65), {}} {
		for from := -3; from < 12; from++ {
			checkFirst(t, nowhere, text, from, nil)
		}
		for _, from := range far {
			checkFirst(t, nowhere, text, from, nil)
		}
	}
}

func TestFirstTakesMissesToo(t *testing.T) {
	// One is missed at 0 and 1, both at 2, none at 3.
	l, text := leaf.Text("ab", 1), "xbbab"
	checkFirst(t, l, text, 0, []int{0, 1, 3})
	checkFirst(t, l, text, 1, []int{0, 1, 3})
	checkFirst(t, l, text, 2, []int{0, 1, 3})
	checkFirst(t, withK(l, 0), text, 0, []int{3})
	checkFirst(t, withK(l, 2), text, 2, []int{0, 1, 2, 3})
}

func TestTwoPartsMissWhatBothMiss(t *testing.T) {
	for _, l := range right() {
		for _, text := range texts() {
			whole := Counts(l, text)
			for cut := 1; cut < len(l.P); cut++ {
				front := Counts(row(l.K, l.P[:cut]...), text)
				back := Counts(row(0, l.P[cut:]...), text)
				for i, count := range whole {
					if count != front[i]+back[i+cut] {
						t.Errorf("P8.2: %v in %q misses %d at %d, its parts %d and %d", l.P, text, count, i, front[i], back[i+cut])
					}
				}
			}
		}
	}
}

func TestTextThatGoesOn(t *testing.T) {
	for _, l := range right() {
		for _, text := range texts() {
			shorter, found := Counts(l, text), Find(l, text)
			for _, more := range []string{"", "a", "b", "\x80", "ab\xff", strings.Repeat("ab", 40)} {
				longer := Counts(l, text+more)
				if len(longer) < len(shorter) || !slices.Equal(longer[:len(shorter)], shorter) {
					t.Errorf("P8.2: Counts of %v in %q do not begin with those in %q", l.P, text+more, text)
				}
				all := Find(l, text+more)
				if len(all) < len(found) || !slices.Equal(all[:len(found)], found) {
					t.Errorf("P8.2: Find of %v in %q does not begin with what it tells in %q", l.P, text+more, text)
				}
			}
		}
	}
}

func TestGreaterKFindsMore(t *testing.T) {
	for _, l := range right() {
		for _, text := range texts() {
			lesser := Find(withK(l, 0), text)
			for k := 1; k <= api.MaxPattern; k++ {
				greater := Find(withK(l, k), text)
				for _, place := range lesser {
					if !slices.Contains(greater, place) {
						t.Errorf("P8.2: %v in %q is found at %d with a lesser K than %d, not with that", l.P, text, place, k)
					}
				}
				lesser = greater
			}
			if len(lesser) != len(Counts(l, text)) {
				t.Errorf("P8.1: %v in %q with K 64 is not found wherever it stands", l.P, text)
			}
		}
	}
}

func TestLongText(t *testing.T) {
	text := written(7, api.MaxText, "abc")
	l := mixed(5, api.MaxPattern, 28, a, b, c, ab, full)
	want := countsOf(l, text)
	if got := Counts(l, text); !slices.Equal(got, want) {
		t.Error("P8.1: Counts in a long text are wrong")
	}
	found := hitsOf(want, l.K)
	if len(found) == 0 || len(found) == len(want) {
		t.Fatalf("the long text tells nothing: %d of %d places", len(found), len(want))
	}
	if got := Find(l, text); !slices.Equal(got, found) {
		t.Error("P8.1: Find in a long text is wrong")
	}
	// From behind each place that is found, First goes to the next one.
	from := 0
	for _, place := range found {
		if got, is := First(l, text, from); got != place || !is {
			t.Fatalf("P8.1: First in a long text from %d is %d, %v, not %d", from, got, is, place)
		}
		from = place + 1
	}
	if got, is := First(l, text, from); got != 0 || is {
		t.Errorf("P8.1: First behind all places is %d, %v", got, is)
	}
}

func TestWhatIsGivenStays(t *testing.T) {
	for _, l := range append(right(), wrong()...) {
		// What lies behind the elements in their memory is not the leaf's.
		memory := append(slices.Clone(l.P), ends, ab, ends)
		given := api.Leaf{P: memory[:len(l.P)], K: l.K}
		before := slices.Clone(memory)
		for _, text := range []string{"", "abab", strings.Repeat("ab", 60)} {
			At(given, text, 0)
			Counts(given, text)
			Find(given, text)
			First(given, text, 1)
		}
		if !slices.Equal(memory, before) || given.K != l.K || len(given.P) != len(l.P) {
			t.Errorf("R5: the calls change %v", before)
		}
	}
	counts := []int{3, 0, 2, 0, 1, 7, 8, 9}
	before := slices.Clone(counts)
	for k := -1; k < 4; k++ {
		Hits(counts[:5], k)
		if !slices.Equal(counts, before) {
			t.Fatalf("R5: Hits changes the counts to %v", counts)
		}
	}
}

// spoil writes into a list, and behind it.
func spoil(l []int) {
	for i := range l {
		l[i] = -7
	}
	_ = append(l, -7)
}

func TestWhatIsToldIsTheCallersOwn(t *testing.T) {
	l, text := leaf.Text("ab", 1), "abbbabaxab"
	wantCounts, wantFound := countsOf(l, text), hitsOf(countsOf(l, text), 1)
	counts, found, hits := Counts(l, text), Find(l, text), Hits(wantCounts, 1)
	otherCounts, otherFound, otherHits := Counts(l, text), Find(l, text), Hits(wantCounts, 1)
	spoil(counts)
	spoil(found)
	spoil(hits)
	if !slices.Equal(otherCounts, wantCounts) || !slices.Equal(Counts(l, text), wantCounts) {
		t.Error("R6: to write into Counts changes others")
	}
	if !slices.Equal(otherFound, wantFound) || !slices.Equal(Find(l, text), wantFound) {
		t.Error("R6: to write into what Find tells changes others")
	}
	if !slices.Equal(wantCounts, countsOf(l, text)) || !slices.Equal(otherHits, wantFound) || !slices.Equal(Hits(wantCounts, 1), wantFound) {
		t.Error("R6: to write into Hits changes the counts, or others")
	}
	// What was told is no view of what was given either.
	given := slices.Clone(wantCounts)
	hits = Hits(given, 1)
	spoil(given)
	l.P[0], l.P[1] = ends, ends
	if !slices.Equal(hits, wantFound) || !slices.Equal(otherCounts, wantCounts) || !slices.Equal(otherFound, wantFound) {
		t.Error("R6: to write into what was given changes what was told of it")
	}
}

func TestTheSameIsToldAlways(t *testing.T) {
	l, text := mixed(2, 6, 2, a, b, ab, full, c), written(3, 300, "abcx")
	counts, found := countsOf(l, text), hitsOf(countsOf(l, text), 2)
	for range 50 {
		// Calls between that tell something else leave no trace.
		Counts(row(0, a), "b")
		Find(row(64, a), "bbbb")
		First(row(0, b), "ab", 1)
		if !slices.Equal(Counts(l, text), counts) || !slices.Equal(Find(l, text), found) || !slices.Equal(Hits(counts, 2), found) {
			t.Fatal("R7: the same calls tell something else")
		}
		checkFirst(t, l, text, 40, found)
		checkAt(t, l, text, 17, counts[17], true)
	}
	// Leaves that have the same elements in other memory are the same.
	other := api.Leaf{P: append(make([]api.Class, 0, 100), l.P...), K: l.K}
	if !slices.Equal(Counts(other, text), counts) || !slices.Equal(Find(other, strings.Clone(text)), found) {
		t.Error("R7: what is told hangs on where the leaf lies")
	}
}

func TestExamples(t *testing.T) {
	l := leaf.Text("ab", 1)
	check(t, l, "abbb", 0, 1, 1)
	checkFind(t, l, "abbb", 0, 1, 2)
}
