package symb

import (
	"math"
	"slices"
	"strings"
	"testing"

	"beagle/api"
	"beagle/block"
	"beagle/class"
	"beagle/conv"
	"beagle/leaf"
	"beagle/naive"
)

// The elements of the samples: of one byte, of more, of none, of all.
var (
	a    = alone('a')
	b    = alone('b')
	c    = alone('c')
	ab   = api.Class{0, 1<<('a'-64) | 1<<('b'-64), 0, 0}
	bc   = api.Class{0, 1<<('b'-64) | 1<<('c'-64), 0, 0}
	low  = api.Class{^uint64(0), ^uint64(0), 0, 0}
	high = api.Class{0, 0, ^uint64(0), ^uint64(0)}
	ends = api.Class{1, 0, 0, 1 << 63}
	most = api.Class{^uint64(0), ^uint64(0), ^uint64(0), ^uint64(0) >> 1}
	full = api.Class{^uint64(0), ^uint64(0), ^uint64(0), ^uint64(0)}
	none = api.Class{}
)

// noSizes are no sizes of any block.
var noSizes = []int{
	math.MinInt, math.MinInt + 1, -1 << 32, -8192, -4096, -64, -4, -2, -1, 0,
	3, 5, 6, 7, 9, 12, 31, 33, 63, 65, 96, 100, 127, 129, 1000, 2047, 2049, 3000, 4095, 4097, 6000, 8191, 8192, 8193, 1 << 14, 1 << 20, 1 << 32, 1<<32 + 4, 1 << 62, math.MaxInt,
}

// alone is the class of one byte, laid into words, as api says.
func alone(x byte) api.Class {
	var element api.Class
	element[x/64] = 1 << (x % 64)
	return element
}

// allBut is the class of all bytes but one.
func allBut(x byte) api.Class {
	element := full
	element[x/64] &^= 1 << (x % 64)
	return element
}

func row(k int, elements ...api.Class) api.Leaf { return api.Leaf{P: elements, K: k} }

func times(n int, element api.Class) []api.Class {
	return slices.Repeat([]api.Class{element}, n)
}

// withK is l with another K.
func withK(l api.Leaf, k int) api.Leaf {
	l.K = k
	return l
}

// with is l with another element at one place.
func with(l api.Leaf, at int, element api.Class) api.Leaf {
	l.P = slices.Clone(l.P)
	l.P[at] = element
	return l
}

// numbers are n numbers below most, always the same ones for one seed.
func numbers(seed, n, most int) []int {
	x := uint64(88172645463325252) + uint64(seed)*2654435761
	l := make([]int, n)
	for i := range l {
		x ^= x << 13
		x ^= x >> 7
		x ^= x << 17
		l[i] = int(x>>33) % most
	}
	return l
}

// mixed is a leaf of n elements out of some.
func mixed(seed, n, k int, some ...api.Class) api.Leaf {
	l := api.Leaf{K: k}
	for _, x := range numbers(seed, n, len(some)) {
		l.P = append(l.P, some[x])
	}
	return l
}

// written is a text of n bytes out of some.
func written(seed, n int, some string) string {
	t := make([]byte, n)
	for i, x := range numbers(seed, n, len(some)) {
		t[i] = some[x]
	}
	return string(t)
}

// rising is all bytes, each once.
func rising() string {
	text := make([]byte, 256)
	for i := range text {
		text[i] = byte(i)
	}
	return string(text)
}

// different is a leaf of n elements, each of another kind.
func different(n, k int) api.Leaf {
	l := api.Leaf{K: k}
	for i := range n {
		l.P = append(l.P, alone(byte(4*i)))
	}
	return l
}

// has reads a class's bits, as api says of its words.
func has(element api.Class, x byte) bool {
	return element[x/64]&(1<<(x%64)) != 0
}

// marksOf tells the marks by the definition.
func marksOf(text string, element api.Class) []uint64 {
	var marks []uint64
	for i := 0; i < len(text); i++ {
		mark := uint64(0)
		if has(element, text[i]) {
			mark = 1
		}
		marks = append(marks, mark)
	}
	return marks
}

// placesOf tells the places by the definition.
func placesOf(l api.Leaf, element api.Class) []uint64 {
	var places []uint64
	for _, other := range l.P {
		place := uint64(1)
		for i := range 4 {
			if other[i] != element[i] {
				place = 0
			}
		}
		places = append(places, place)
	}
	return places
}

// countsOf tells by the definition how many elements a leaf that is right misses.
func countsOf(l api.Leaf, text string) []int {
	var counts []int
	for i := 0; i+len(l.P) <= len(text); i++ {
		count := 0
		for j := range l.P {
			if !has(l.P[j], text[i+j]) {
				count++
			}
		}
		counts = append(counts, count)
	}
	return counts
}

// hitsOf tells the places of the counts that are k at most.
func hitsOf(counts []int, k int) []int {
	var places []int
	for i := range len(counts) {
		if !(counts[i] > k) {
			places = append(places, i)
		}
	}
	return places
}

// kindsOf tells how many kinds a leaf's bound elements have.
func kindsOf(l api.Leaf) int {
	kinds := 0
	for i, element := range l.P {
		if element != full && !slices.Contains(l.P[:i], element) {
			kinds++
		}
	}
	return kinds
}

// sizesOf are all sizes of blocks of so many numbers.
func sizesOf(m int) []int {
	var sizes []int
	for size := 1; size <= 4096; size *= 2 {
		if size >= m {
			sizes = append(sizes, size)
		}
	}
	return sizes
}

// right are leaves at the edges and ordinary ones.
func right() []api.Leaf {
	leaves := []api.Leaf{
		row(0, a), row(1, a), row(64, a), row(0, full), row(3, full), row(0, ab), row(0, most), row(0, alone(0)), row(0, alone(255)),
		row(0, a, b), row(1, a, b), row(2, b, a), row(3, a, b), row(0, a, a), row(1, a, b, c), row(2, c, b, a), row(0, a, b, a),
		row(0, ab, bc), row(1, a, ab), row(1, ab, a, bc, ab), row(2, a, b, ab, bc, c), row(0, low, high), row(1, low, a, most, ab), row(1, ends, alone(0), alone(255)),
		row(0, allBut(0), allBut(255)), row(1, allBut('a'), a), row(0, allBut('a'), allBut('b'), full),
		row(0, full, a), row(0, a, full), row(1, a, full, b), row(0, full, full), row(1, full, a, full, full, b, full),
		row(0, alone(127), alone(128)), row(1, alone(255), alone(0), ends),
		row(0, times(63, a)...), row(30, times(64, a)...), row(64, times(64, b)...), row(0, times(64, full)...), row(0, times(64, ab)...), row(10, times(64, most)...),
		with(row(0, times(64, full)...), 0, a), with(row(0, times(64, full)...), 63, b), with(row(20, times(64, a)...), 31, full),
		different(7, 5), different(64, 62),
	}
	for seed := range 4 {
		leaves = append(leaves,
			mixed(seed, 2+seed, seed%3, a, b),
			mixed(seed, 3+seed*2, 1+seed, a, b, ab, bc, full),
			mixed(seed, 30+seed*11, 15+5*seed, a, b, c, ab, full),
			mixed(seed, 5, seed, ab, low, high, ends, full, allBut('b')))
	}
	return leaves
}

// notRight are leaves that are not right, each for one cause, but the last ones.
func notRight() []api.Leaf {
	return []api.Leaf{
		{}, {P: []api.Class{}}, {K: 1}, {K: 64}, leaf.Text("", 0),
		row(0, times(65, a)...), row(0, times(65, full)...), row(64, times(66, ab)...), leaf.Text(strings.Repeat("ab", 33), 0), row(1, times(300, a)...),
		row(0, none), row(1, none), row(64, none, none), row(0, none, a), row(0, a, none), row(1, a, none, b), with(row(0, times(64, a)...), 63, none), with(row(64, times(64, full)...), 0, none),
		row(-1, a), row(-1, a, b), row(-1, full), row(-64, a, b), row(math.MinInt, a),
		row(65, a), row(65, a, b), row(65, full), row(65, times(64, a)...), row(1000, a), row(math.MaxInt, a),
		row(-1), row(65, none), row(-1, times(65, none)...),
	}
}

// texts are at the edges and ordinary; bytes that are no runes are among them.
func texts() []string {
	all := []string{
		"", "a", "b", "ab", "ba", "aa", "abc", "abab", "abbb", "aaaa", "axcbbxc", "axbabcab",
		"\x00", "\xff", "\x7f\x80", "\x00\x7f\x80\xff\x00\xff\x00\x00", "\x80\x80\x81", "\xc3", "a\x80b\xffab", "\xed\xa0\x80ab", "\xf0\x9fab",
		"é", "日本ab", "x😀y", "\ufffdab",
		strings.Repeat("a", 63), strings.Repeat("a", 64), strings.Repeat("a", 65), strings.Repeat("ab", 40),
		strings.Repeat("a", 63) + "b" + strings.Repeat("a", 64),
	}
	for seed := range 3 {
		all = append(all, written(seed, 20+seed*37, "ab"), written(seed, 90, "abcx"), written(seed, 130, "\x00\x7f\x80\xffab"))
	}
	return all
}

// checkMarks holds Marks against the marks that are asked.
func checkMarks(t *testing.T, text string, element api.Class, want ...uint64) {
	t.Helper()
	if got := Marks(text, element); !slices.Equal(got, want) {
		t.Errorf("P11.1: Marks of %v in %q are %v, not %v", element, text, got, want)
	}
}

// checkPlaces holds Places against the places that are asked.
func checkPlaces(t *testing.T, l api.Leaf, element api.Class, want ...uint64) {
	t.Helper()
	if got := Places(l, element); !slices.Equal(got, want) {
		t.Errorf("P11.1: Places of %v in %v are %v, not %v", element, l, got, want)
	}
}

// checkCounts holds Counts against the counts and the number of transforms that are asked.
func checkCounts(t *testing.T, l api.Leaf, text string, size, wantNumber int, want ...int) {
	t.Helper()
	if got, number, errno := Counts(l, text, size); !slices.Equal(got, want) || number != wantNumber || errno != api.OK {
		t.Errorf("P11.2: Counts of %v in %q, size %d, are %v, %d, %d, not %v, %d, 0", l, text, size, got, number, errno, want, wantNumber)
	}
}

// checkFind holds Find against the places and the number of transforms that are asked.
func checkFind(t *testing.T, l api.Leaf, text string, size, wantNumber int, want ...int) {
	t.Helper()
	if got, number, errno := Find(l, text, size); !slices.Equal(got, want) || number != wantNumber || errno != api.OK {
		t.Errorf("P11.2: Find of %v in %q, size %d, tells %v, %d, %d, not %v, %d, 0", l, text, size, got, number, errno, want, wantNumber)
	}
}

// checkBoth holds Counts, and Find, against the counts and the number of transforms that are asked.
func checkBoth(t *testing.T, l api.Leaf, text string, size, number int, counts ...int) {
	t.Helper()
	checkCounts(t, l, text, size, number, counts...)
	checkFind(t, l, text, size, number, hitsOf(counts, l.K)...)
}

// check holds Counts and Find of a leaf that is right against the definition, for each of the sizes, which may be.
func check(t *testing.T, l api.Leaf, text string, sizes ...int) {
	t.Helper()
	counts := countsOf(l, text)
	for _, size := range sizes {
		checkBoth(t, l, text, size, kindsOf(l)*block.Count(len(l.P), len(text), size), counts...)
	}
}

// checkErrors holds the error of Counts and Find, beside which there is nothing, against the one that is asked.
func checkErrors(t *testing.T, l api.Leaf, text string, size int, want api.Errno) {
	t.Helper()
	if got, number, errno := Counts(l, text, size); len(got) != 0 || number != 0 || errno != want {
		t.Errorf("P11.2: Counts of %v in %q, size %d, are %v, %d, %d, not the error %d alone", l, text, size, got, number, errno, want)
	}
	if got, number, errno := Find(l, text, size); len(got) != 0 || number != 0 || errno != want {
		t.Errorf("P11.2: Find of %v in %q, size %d, tells %v, %d, %d, not the error %d alone", l, text, size, got, number, errno, want)
	}
}

func TestMarksOfShortTexts(t *testing.T) {
	checkMarks(t, "abcb", bc, 0, 1, 1, 1)
	checkMarks(t, "abcb", a, 1, 0, 0, 0)
	checkMarks(t, "abcb", b, 0, 1, 0, 1)
	checkMarks(t, "abcb", alone('x'), 0, 0, 0, 0)
	checkMarks(t, "abcb", full, 1, 1, 1, 1)
	checkMarks(t, "abcb", none, 0, 0, 0, 0)
	checkMarks(t, "abcb", allBut('b'), 1, 0, 1, 0)
	checkMarks(t, "a", a, 1)
	checkMarks(t, "a", b, 0)
	checkMarks(t, "\x00\xff\x80\x7f", ends, 1, 1, 0, 0)
	checkMarks(t, "\x00\xff\x80\x7f", low, 1, 0, 0, 1)
	checkMarks(t, "\x00\xff\x80\x7f", high, 0, 1, 1, 0)
	// A mark a byte, not a rune.
	checkMarks(t, "éa", a, 0, 0, 1)
	checkMarks(t, "日", alone(0x97), 0, 1, 0)
	checkMarks(t, "\xed\xa0\x80a", alone(0xa0), 0, 1, 0, 0)
	checkMarks(t, "\xff\xfe\ufffd", alone(0xfd), 0, 0, 0, 0, 0)
}

func TestMarksOfTheEmptyText(t *testing.T) {
	for _, element := range []api.Class{none, full, a, ab, most, ends, low, high} {
		checkMarks(t, "", element)
	}
}

func TestMarksOfEveryByte(t *testing.T) {
	text := rising()
	for _, element := range []api.Class{none, full, ab, bc, low, high, ends, most, class.Full(), class.Range('a', 'z')} {
		checkMarks(t, text, element, marksOf(text, element)...)
	}
	checkMarks(t, text, none, slices.Repeat([]uint64{0}, 256)...)
	checkMarks(t, text, full, slices.Repeat([]uint64{1}, 256)...)
	for x := range 256 {
		one, others := slices.Repeat([]uint64{0}, 256), slices.Repeat([]uint64{1}, 256)
		one[x], others[x] = 1, 0
		checkMarks(t, text, alone(byte(x)), one...)
		checkMarks(t, text, allBut(byte(x)), others...)
	}
}

func TestMarksAreAsManyAsBytes(t *testing.T) {
	for _, text := range append(texts(), rising(), written(1, 5000, "abc"), written(2, api.MaxText, "abcx")) {
		for _, element := range []api.Class{none, full, a, alone(0), alone(127), alone(128), alone(255), ab, allBut('a'), ends} {
			marks := Marks(text, element)
			if !slices.Equal(marks, marksOf(text, element)) {
				t.Errorf("P11.1: Marks of %v in %q are %v", element, text, marks)
			}
			if len(marks) != len(text) || conv.Greatest(marks) > 1 {
				t.Errorf("P11.1: %d bytes have %d Marks, the greatest is %d", len(text), len(marks), conv.Greatest(marks))
			}
		}
	}
}

func TestPlaces(t *testing.T) {
	for _, element := range []api.Class{none, full, a, ab, most} {
		checkPlaces(t, api.Leaf{}, element)
		checkPlaces(t, row(1, []api.Class{}...), element)
	}
	checkPlaces(t, row(0, a), a, 1)
	checkPlaces(t, row(0, a), b, 0)
	checkPlaces(t, row(0, ab), ab, 1)
	checkPlaces(t, row(0, a, b, a, c, a), a, 1, 0, 1, 0, 1)
	checkPlaces(t, row(0, a, b, a, c, a), b, 0, 1, 0, 0, 0)
	checkPlaces(t, row(0, a, b, a, c, a), c, 0, 0, 0, 1, 0)
	checkPlaces(t, row(0, a, a, a), a, 1, 1, 1)
	// Of a class that no element is.
	checkPlaces(t, row(0, a, b, a), c, 0, 0, 0)
	checkPlaces(t, row(0, a, b, a), none, 0, 0, 0)
	checkPlaces(t, row(0, a, b, a), full, 0, 0, 0)
	// A class that shares bytes with an element is another one.
	checkPlaces(t, row(0, a, ab, bc, ab), ab, 0, 1, 0, 1)
	checkPlaces(t, row(0, a, ab, bc, ab), a, 1, 0, 0, 0)
	checkPlaces(t, row(0, a, ab, bc, ab), b, 0, 0, 0, 0)
	checkPlaces(t, row(0, a, ab, most, full), class.Or(a, c), 0, 0, 0, 0)
	checkPlaces(t, row(0, full, most, allBut('a')), most, 0, 1, 0)
	checkPlaces(t, row(0, full, most, allBut('a')), allBut('a'), 0, 0, 1)
	// Classes that differ in one word alone.
	for x := range 256 {
		checkPlaces(t, row(0, full, allBut(byte(x)), none, alone(byte(x)), full), allBut(byte(x)), 0, 1, 0, 0, 0)
		checkPlaces(t, row(0, full, allBut(byte(x)), none, alone(byte(x)), full), alone(byte(x)), 0, 0, 0, 1, 0)
	}
}

func TestPlacesOfFreeElements(t *testing.T) {
	checkPlaces(t, row(0, full), full, 1)
	checkPlaces(t, row(0, full, full, full), full, 1, 1, 1)
	checkPlaces(t, row(0, full, full, full), class.Full(), 1, 1, 1)
	checkPlaces(t, row(0, full, full, full), a, 0, 0, 0)
	checkPlaces(t, row(0, full, full, full), most, 0, 0, 0)
	checkPlaces(t, row(0, full, full, full), none, 0, 0, 0)
	checkPlaces(t, row(0, a, full, b, full), full, 0, 1, 0, 1)
	checkPlaces(t, row(0, times(64, full)...), full, slices.Repeat([]uint64{1}, 64)...)
}

func TestPlacesOfALeafThatIsNotRight(t *testing.T) {
	checkPlaces(t, row(0, none), none, 1)
	checkPlaces(t, row(0, a, none, a), none, 0, 1, 0)
	checkPlaces(t, row(0, a, none, a), a, 1, 0, 1)
	checkPlaces(t, row(-1, a, b), a, 1, 0)
	checkPlaces(t, row(65, a, b), b, 0, 1)
	checkPlaces(t, row(0, times(65, a)...), a, slices.Repeat([]uint64{1}, 65)...)
	checkPlaces(t, row(0, times(5000, ab)...), ab, slices.Repeat([]uint64{1}, 5000)...)
	for _, l := range append(right(), notRight()...) {
		for _, element := range []api.Class{none, full, a, b, ab, bc, most, ends, low, alone(0), alone(252)} {
			for _, k := range []int{l.K, math.MinInt, -1, 0, 1, 64, 65, math.MaxInt} {
				checkPlaces(t, withK(l, k), element, placesOf(l, element)...)
			}
		}
	}
}

func TestLeafThatIsNotRight(t *testing.T) {
	// This error comes first, whatever the size, and however long the text.
	for _, l := range notRight() {
		for _, text := range []string{"", "a", "ab", "abab", strings.Repeat("a", 65), strings.Repeat("ab", 200)} {
			for _, size := range append(sizesOf(1), noSizes...) {
				checkErrors(t, l, text, size, api.ErrMatchForm)
			}
		}
	}
	// Of the same lengths, with all else as it may be, there are counts.
	checkBoth(t, row(0, times(64, a)...), strings.Repeat("a", 65), 64, 15, 0, 0)
	checkBoth(t, row(0, a), "ab", 1, 15, 0, 1)
	checkBoth(t, row(64, a), "ab", 1, 15, 0, 1)
}

func TestSizesThatMayBe(t *testing.T) {
	for m := 1; m <= 64; m++ {
		l := mixed(m, m, m/3, a, ab, full)
		for _, n := range []int{m, m + 1, m + 40} {
			check(t, l, written(m, n, "abc"), sizesOf(m)[0])
		}
		if m == 1 || m == 2 || m == 3 || m == 33 || m == 64 {
			check(t, l, written(m, 100, "abc"), sizesOf(m)...)
		}
	}
	check(t, leaf.Text("a", 0), "aba", 1, 2, 4096)
	check(t, leaf.Text("ab", 1), "aba", 2, 4, 4096)
	check(t, leaf.Text("abc", 0), "abcabc", 4, 8, 4096)
	check(t, leaf.Text("abcd", 0), "abcd", 4, 4096)
}

func TestSizesThatMayNotBe(t *testing.T) {
	for m := 1; m <= 64; m++ {
		least := sizesOf(m)[0]
		refused := append(slices.Clone(noSizes), least-1, m-1, -m, -least, least/2, 4097, 8192)
		for size := 1; size < m; size *= 2 {
			refused = append(refused, size)
		}
		for _, n := range []int{m, m + 1, m + 100} {
			text := strings.Repeat("a", n)
			for _, size := range refused {
				if slices.Contains(sizesOf(m), size) {
					continue
				}
				checkErrors(t, row(0, times(m, a)...), text, size, api.ErrBlockSize)
				checkErrors(t, row(m, times(m, ab)...), text, size, api.ErrBlockSize)
				// Nor where there is no kind that would be slid.
				checkErrors(t, row(0, times(m, full)...), text, size, api.ErrBlockSize)
			}
		}
	}
	checkErrors(t, leaf.Text("ab", 0), "ab", 1, api.ErrBlockSize)
	checkErrors(t, row(0, full), "a", 0, api.ErrBlockSize)
	checkErrors(t, row(0, full, full), "ab", 1, api.ErrBlockSize)
}

func TestNoSizeIsRefusedWhereTheLeafIsLonger(t *testing.T) {
	for _, size := range append(sizesOf(1), noSizes...) {
		for m := 1; m <= 64; m++ {
			for _, n := range []int{0, m / 2, m - 1} {
				text := strings.Repeat("a", n)
				checkBoth(t, row(0, times(m, a)...), text, size, 0)
				checkBoth(t, row(64, times(m, full)...), text, size, 0)
				checkBoth(t, different(m, m), text, size, 0)
			}
		}
	}
	checkBoth(t, leaf.Text("abc", 3), "ab", 0, 0)
	checkBoth(t, leaf.Text("a", 1), "", 4096, 0)
}

func TestLeafAndTextOfAllLengths(t *testing.T) {
	for m := 1; m <= 64; m++ {
		l := mixed(m, m, m/4, a, ab, b, full)
		for _, n := range []int{0, m - 2, m - 1, m, m + 1, m + 2, 2 * m, 130} {
			text := written(m, max(0, n), "abc")
			check(t, l, text, 64)
			counts, _, _ := Counts(l, text, 128)
			if want := max(0, len(text)-m+1); len(counts) != want {
				t.Errorf("P11.2: %d elements in %d bytes have %d Counts", m, len(text), len(counts))
			}
		}
	}
	checkBoth(t, leaf.Text("ab", 0), "ab", 2, 18, 0)
	checkBoth(t, leaf.Text("ab", 0), "ba", 2, 18, 2)
	checkBoth(t, leaf.Text("ab", 0), "a", 2, 0)
	checkBoth(t, leaf.Text("ab", 0), "", 2, 0)
	checkBoth(t, leaf.Text("ab", 0), "abc", 2, 30, 0, 2)
	checkBoth(t, leaf.Text("ab", 0), "cab", 2, 30, 2, 0)
}

func TestFreeElements(t *testing.T) {
	// Alone: no kinds, no transforms, and nothing missed.
	for _, m := range []int{1, 2, 3, 63, 64} {
		for _, text := range append(texts(), rising()) {
			zeros := make([]int, max(0, len(text)-m+1))
			checkBoth(t, row(0, times(m, full)...), text, 64, 0, zeros...)
			checkBoth(t, row(64, times(m, full)...), text, 4096, 0, zeros...)
		}
	}
	checkBoth(t, row(0, full), "xyz", 1, 0, 0, 0, 0)
	// At the beginning, in the middle, at the end.
	checkBoth(t, row(0, full, b), "abcb", 4, 9, 0, 1, 0)
	checkBoth(t, row(0, b, full), "abcb", 4, 9, 1, 0, 1)
	checkBoth(t, row(0, a, full, b), "axbxb\xff\x00", 8, 18, 0, 2, 1, 2, 2)
	checkBoth(t, row(1, a, full, b), "axbxb\xff\x00", 8, 18, 0, 2, 1, 2, 2)
	checkBoth(t, row(0, full, full, b, full), "aabaaaba", 8, 9, 0, 1, 1, 1, 0)
	for at := range 64 {
		text := []byte(strings.Repeat("a", 65))
		text[at] = 'b'
		checkBoth(t, with(row(0, times(64, full)...), at, b), string(text), 64, 15, 0, 1)
		checkBoth(t, with(row(0, times(64, a)...), at, full), string(text)[:64], 64, 9, 0)
	}
}

func TestElementsOfMoreBytes(t *testing.T) {
	// Of two bytes.
	checkBoth(t, row(0, ab), "abcx", 4, 9, 0, 0, 1, 1)
	checkBoth(t, row(0, ab, ab), "abcab", 8, 9, 0, 1, 1, 0)
	checkBoth(t, row(0, ends), "\x00\x01\xfe\xff", 4, 9, 0, 1, 1, 0)
	// Of all but one.
	checkBoth(t, row(0, allBut('a')), "abca", 4, 9, 1, 0, 0, 1)
	checkBoth(t, row(0, allBut('a'), allBut('b')), "abca", 4, 18, 2, 0, 0)
	checkBoth(t, row(1, allBut('a'), a), "aabab", 8, 18, 1, 2, 0, 2)
	checkBoth(t, row(0, most, most), "\xff\xff\x00\xfe", 4, 9, 2, 1, 0)
	for x := range 256 {
		one, others := make([]int, 256), make([]int, 256)
		for i := range 256 {
			one[i] = 1
		}
		one[x], others[x] = 0, 1
		checkBoth(t, row(0, alone(byte(x))), rising(), 256, 9, one...)
		checkBoth(t, row(0, allBut(byte(x))), rising(), 256, 9, others...)
	}
}

func TestKindsThatShareBytes(t *testing.T) {
	// Each element is missed by its own class alone, whichever others have the byte.
	checkBoth(t, row(0, ab, bc), "abcab", 8, 18, 0, 0, 2, 0)
	checkBoth(t, row(0, bc, ab), "abcab", 8, 18, 1, 1, 0, 1)
	checkBoth(t, row(1, a, ab), "abba", 4, 18, 0, 1, 1)
	checkBoth(t, row(1, a, ab, b), "abbab", 8, 27, 0, 2, 1)
	checkBoth(t, row(0, low, ab, a, most, full), "aabaa\xff", 8, 36, 1, 0)
	checkBoth(t, row(1, ab, full, c, ab), "axcbbxc", 4, 54, 0, 2, 3, 2)
	for _, l := range []api.Leaf{row(1, a, ab, bc, most, low), row(2, ab, bc, ab, b, full, bc), row(0, allBut('a'), allBut('b'), allBut('c')), row(1, low, high, ends, most)} {
		for _, text := range append(texts(), rising()) {
			check(t, l, text, 8, 64)
		}
	}
}

func TestOneKindEverywhereAndManyKinds(t *testing.T) {
	for _, m := range []int{1, 2, 63, 64} {
		size, n := sizesOf(m)[0], m+3
		number := block.Count(m, n, size)
		text := strings.Repeat("a", n)
		checkBoth(t, row(0, times(m, a)...), text, size, number, 0, 0, 0, 0)
		checkBoth(t, row(m, times(m, b)...), text, size, number, m, m, m, m)
		checkBoth(t, row(m-1, times(m, b)...), text, size, number, m, m, m, m)
		checkBoth(t, row(0, times(m, a)...), text[1:]+"b", size, number, 0, 0, 0, 1)
		checkBoth(t, row(0, times(m, a)...), "b"+text[1:], size, number, 1, 0, 0, 0)
	}
	// As many kinds as elements: each is slid.
	for _, m := range []int{1, 2, 3, 31, 64} {
		l := different(m, 0)
		var text []byte
		for i := range m {
			text = append(text, byte(4*i))
		}
		size := sizesOf(m)[0]
		checkBoth(t, l, string(text), size, 9*m, 0)
		checkBoth(t, l, string(text)+"\x01", size, m*block.Count(m, m+1, size), 0, m)
		checkBoth(t, l, "\x01"+string(text), size, m*block.Count(m, m+1, size), m, 0)
		for at := range m {
			other := slices.Clone(text)
			other[at]++
			checkBoth(t, l, string(other), size, 9*m, 1)
		}
	}
}

func TestHowManyTransforms(t *testing.T) {
	// Written out once: 3, and 6 for each block, for each kind.
	text := strings.Repeat("ab", 5)
	for _, x := range []struct{ m, size, each int }{
		{1, 1, 63}, {1, 2, 33}, {1, 4, 21}, {1, 8, 15}, {1, 16, 9}, {1, 4096, 9},
		{2, 2, 57}, {2, 4, 21}, {2, 8, 15}, {2, 16, 9},
		{4, 4, 45}, {4, 8, 15}, {5, 8, 15}, {8, 8, 21}, {9, 16, 9}, {10, 16, 9}, {10, 4096, 9}, {11, 16, 0}, {64, 64, 0},
	} {
		for kinds := range x.m + 1 {
			// The last elements are of the first kind anew, or free, if there is no kind.
			l := row(0, times(x.m, full)...)
			for at := range x.m {
				if kinds > 0 {
					l.P[at] = alone(byte(4 * (at % kinds)))
				}
			}
			_, number, errno := Counts(l, text, x.size)
			_, again, errnoToo := Find(l, text, x.size)
			if want := kinds * x.each; number != want || again != want || errno != api.OK || errnoToo != api.OK {
				t.Errorf("P11.2: %d elements of %d kinds, size %d, take %d, %d transforms, %d, %d, not %d", x.m, kinds, x.size, number, again, errno, errnoToo, want)
			}
		}
	}
	// They hang on no byte of the text, on no K, and not on whether a kind is met.
	for _, l := range []api.Leaf{leaf.Text("ab", 0), leaf.Text("zy", 2), row(64, ab, bc), row(1, most, a)} {
		for _, other := range []string{text, strings.Repeat("z", 10), strings.Repeat("\x00", 10)} {
			check(t, l, other, 2, 4, 8, 16)
			if _, number, _ := Counts(l, other, 4); number != 42 {
				t.Errorf("P11.2: Counts of %v in %q tell %d transforms, not 42", l, other, number)
			}
		}
	}
	checkBoth(t, row(0, a, full, full, a), text, 4, 45, 1, 1, 1, 1, 1, 1, 1)
}

func TestFindHangsOnK(t *testing.T) {
	checkFind(t, leaf.Text("ab", 0), "abbb", 4, 18, 0)
	checkFind(t, leaf.Text("ab", 1), "abbb", 4, 18, 0, 1, 2)
	checkFind(t, leaf.Text("ab", 0), "baxab", 8, 18, 3)
	checkFind(t, leaf.Text("ab", 1), "baxab", 8, 18, 1, 3)
	checkFind(t, leaf.Text("ab", 2), "baxab", 8, 18, 0, 1, 2, 3)
	checkFind(t, leaf.Text("ab", 64), "baxab", 8, 18, 0, 1, 2, 3)
	checkFind(t, leaf.Text("c", 0), "abab", 4, 9)
	checkFind(t, leaf.Text("aa", 0), "aaaa", 4, 9, 0, 1, 2)
	// The text's end and its beginning together are no place.
	checkFind(t, leaf.Text("ba", 0), "ab", 2, 18)
	for _, m := range []int{1, 2, 5, 40, 64} {
		all := []int{0, 1, 2, 3, 4}
		text := strings.Repeat("a", m+4)
		for _, k := range []int{0, 1, m - 1, m, 64} {
			want := all
			if k < m {
				want = nil
			}
			checkFind(t, row(k, times(m, b)...), text, 64, block.Count(m, m+4, 64), want...)
			checkFind(t, row(k, times(m, a)...), text, 64, block.Count(m, m+4, 64), all...)
		}
	}
	l, text := mixed(5, 9, 0, a, b, ab, c, full), written(6, 200, "abcx")
	for k := range 65 {
		check(t, withK(l, k), text, 16)
	}
}

func TestCountsHangNotOnK(t *testing.T) {
	for _, l := range []api.Leaf{leaf.Text("a", 0), leaf.Text("ab", 0), row(0, a, full, ab), row(0, full), mixed(3, 20, 0, a, b, full)} {
		for _, text := range []string{"", "ab", "abab", strings.Repeat("aabc", 12)} {
			want := countsOf(l, text)
			for k := range 65 {
				checkCounts(t, withK(l, k), text, 32, kindsOf(l)*block.Count(len(l.P), len(text), 32), want...)
			}
		}
	}
	// Above and below what K may be the leaf is not right.
	for _, k := range []int{math.MinInt, -2, -1, 65, 66, math.MaxInt} {
		checkErrors(t, leaf.Text("ab", k), "abab", 4, api.ErrMatchForm)
	}
}

func TestSamples(t *testing.T) {
	for i, l := range right() {
		// All sizes take long: one text takes each, and of many kinds the least one alone.
		sizes := sizesOf(len(l.P))
		for _, text := range texts() {
			check(t, l, text, sizes[0])
		}
		if kindsOf(l) <= 5 {
			check(t, l, written(i, 60+i, "abc\x00\xff"), sizes...)
		}
	}
}

func TestElementByElementIsTheSame(t *testing.T) {
	for _, l := range right() {
		for _, text := range append(texts(), rising()) {
			wantCounts, wantPlaces := naive.Counts(l, text), naive.Find(l, text)
			// The least size takes long; the samples above have it.
			for _, size := range sizesOf(len(l.P))[1:3] {
				if got, _, errno := Counts(l, text, size); !slices.Equal(got, wantCounts) || errno != api.OK {
					t.Errorf("P11.2: Counts of %v in %q, size %d, are %v, %d, element by element %v", l, text, size, got, errno, wantCounts)
				}
				if got, _, errno := Find(l, text, size); !slices.Equal(got, wantPlaces) || errno != api.OK {
					t.Errorf("P11.2: Find of %v in %q, size %d, tells %v, %d, element by element %v", l, text, size, got, errno, wantPlaces)
				}
			}
		}
	}
}

// every is all texts of up to n bytes out of some.
func every(n int, some string) []string {
	all, longest := []string{""}, []string{""}
	for range n {
		var longer []string
		for _, text := range longest {
			for i := range len(some) {
				longer = append(longer, text+some[i:i+1])
			}
		}
		all, longest = append(all, longer...), longer
	}
	return all
}

func TestAllShortLeavesInAllShortTexts(t *testing.T) {
	// The letters of a pattern name elements.
	elements := map[byte]api.Class{'0': alone(0), '1': alone(255), '2': ends, '?': full}
	for _, pattern := range every(3, "012?")[1:] {
		var l api.Leaf
		for i := range len(pattern) {
			l.P = append(l.P, elements[pattern[i]])
		}
		for _, text := range every(4, "\x00\xff") {
			l.K = (len(text) + len(pattern)) % 3
			check(t, l, text, 4)
		}
	}
}

// slid tells by the definition the sums of p along n numbers.
func slid(p, n []uint64) []uint64 {
	var sums []uint64
	for i := 0; i+len(p) <= len(n); i++ {
		sum := uint64(0)
		for j := range p {
			sum += p[j] * n[i+j]
		}
		sums = append(sums, sum)
	}
	return sums
}

func TestSumOverKinds(t *testing.T) {
	for _, l := range right() {
		for _, text := range append(texts(), rising()) {
			kept := make([]uint64, max(0, len(text)-len(l.P)+1))
			for _, kind := range leaf.Kinds(l) {
				sums, errno := conv.Correlate(Places(l, kind), Marks(text, kind))
				if !slices.Equal(sums, slid(placesOf(l, kind), marksOf(text, kind))) || errno != api.OK {
					t.Errorf("P11.3: Places of %v in %v, slid along Marks in %q, have the sums %v, %d", kind, l, text, sums, errno)
				}
				for i := range sums {
					kept[i] += sums[i]
				}
			}
			for i, count := range naive.Counts(l, text) {
				if int(kept[i]) != leaf.Bound(l)-count {
					t.Errorf("P11.3: the sum over the kinds of %v in %q is %d at %d, where %d of %d are missed", l, text, kept[i], i, count, leaf.Bound(l))
				}
			}
		}
	}
}

// turned is a leaf the other way round.
func turned(l api.Leaf) api.Leaf {
	l.P = slices.Clone(l.P)
	slices.Reverse(l.P)
	return l
}

// turnedText is a text the other way round, byte by byte.
func turnedText(text string) string {
	all := []byte(text)
	slices.Reverse(all)
	return string(all)
}

func TestTheOtherWayRound(t *testing.T) {
	for _, l := range right() {
		if kindsOf(l) > 10 {
			continue
		}
		for _, text := range texts() {
			counts, number, _ := Counts(l, text, 64)
			slices.Reverse(counts)
			checkCounts(t, turned(l), turnedText(text), 64, number, counts...)
		}
	}
	checkCounts(t, row(0, ab, full, c), "bxcaxx", 8, 18, 0, 2, 2, 1)
	checkCounts(t, row(0, c, full, ab), "xxacxb", 8, 18, 1, 2, 2, 0)
}

func TestLongText(t *testing.T) {
	text := written(7, api.MaxText, "abcx")
	l := row(2, a, full, ab, b, full, bc, allBut('a'), b)
	counts, found := countsOf(l, text), naive.Find(l, text)
	if len(found) == 0 || len(found) == len(counts) {
		t.Fatalf("the long text tells nothing: %d of %d places", len(found), len(counts))
	}
	for _, size := range []int{64, 4096} {
		number := 5 * block.Count(8, len(text), size)
		if got, took, errno := Counts(l, text, size); !slices.Equal(got, counts) || took != number || errno != api.OK {
			t.Errorf("P11.2: Counts in a long text, size %d, are wrong, or tell %d transforms, not %d", size, took, number)
		}
		if got, took, errno := Find(l, text, size); !slices.Equal(got, found) || took != number || errno != api.OK {
			t.Errorf("P11.2: Find in a long text, size %d, is wrong, or tells %d transforms, not %d", size, took, number)
		}
	}
}

func TestWhatIsGivenStays(t *testing.T) {
	for _, l := range slices.Concat(right(), notRight()) {
		// What lies behind the elements in their memory is not the leaf's.
		memory := append(slices.Clone(l.P), ends, ab, ends)
		given := api.Leaf{P: memory[:len(l.P)], K: l.K}
		before := slices.Clone(memory)
		for _, text := range []string{"", "abab", strings.Repeat("ab", 40)} {
			for _, size := range []int{0, 4, 64} {
				Counts(given, text, size)
				Find(given, text, size)
			}
			Places(given, ab)
			Marks(text, ab)
		}
		if !slices.Equal(memory, before) || given.K != l.K || len(given.P) != len(l.P) {
			t.Errorf("R5: the calls change %v", before)
		}
	}
}

// spoil writes into a list, and behind it.
func spoil[T int | uint64](l []T) {
	for i := range l {
		l[i] = 7
	}
	_ = append(l, 7)
}

func TestWhatIsToldIsTheCallersOwn(t *testing.T) {
	l, text := row(1, a, full, bc), "aabxabaxbaab"
	wantMarks, wantPlaces := marksOf(text, bc), placesOf(l, bc)
	wantCounts, number := countsOf(l, text), 2*block.Count(3, len(text), 4)
	wantFound := hitsOf(wantCounts, 1)
	spoil(Marks(text, bc))
	spoil(Places(l, bc))
	counts, _, _ := Counts(l, text, 4)
	found, _, _ := Find(l, text, 4)
	otherMarks, otherPlaces := Marks(text, bc), Places(l, bc)
	otherCounts, _, _ := Counts(l, text, 4)
	otherFound, _, _ := Find(l, text, 4)
	spoil(counts)
	spoil(found)
	checkMarks(t, text, bc, wantMarks...)
	checkPlaces(t, l, bc, wantPlaces...)
	checkCounts(t, l, text, 4, number, wantCounts...)
	checkFind(t, l, text, 4, number, wantFound...)
	// Nor is what was told a view of the leaf that was given.
	l.P[0], l.P[1], l.P[2] = ends, ends, ends
	if !slices.Equal(otherMarks, wantMarks) || !slices.Equal(otherPlaces, wantPlaces) || !slices.Equal(otherCounts, wantCounts) || !slices.Equal(otherFound, wantFound) {
		t.Error("R6: to write into the leaf, or what another call told of it, changes what was told")
	}
}

func TestTheSameIsToldAlways(t *testing.T) {
	l, text := mixed(2, 6, 3, a, b, ab, full), written(3, 200, "abc")
	counts, number := countsOf(l, text), kindsOf(l)*block.Count(6, 200, 32)
	marks, places := marksOf(text, ab), placesOf(l, ab)
	for range 30 {
		// Calls between that tell something else, or errors, leave no trace.
		Counts(leaf.Text("zz", 0), "azzz", 8)
		Find(leaf.Text("b", 1), "abb", 1)
		Counts(row(0, none), "abb", 1)
		Find(row(0, ab), "abb", 0)
		Counts(l, text, 3)
		checkBoth(t, l, text, 32, number, counts...)
		checkMarks(t, text, ab, marks...)
		checkPlaces(t, l, ab, places...)
	}
	// The same elements, and bytes, in other memory are the same.
	other := api.Leaf{P: append(make([]api.Class, 0, 100), l.P...), K: l.K}
	checkBoth(t, other, strings.Clone(text), 32, number, counts...)
	checkBoth(t, other, (text + "ab")[:200], 32, number, counts...)
}

func TestExamples(t *testing.T) {
	checkCounts(t, leaf.Text("ab", 0), "abbb", 4, 18, 0, 1, 1)
	checkFind(t, leaf.Text("ab", 1), "abbb", 4, 18, 0, 1, 2)
}
