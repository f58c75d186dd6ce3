package wild

import (
	"math"
	"slices"
	"strings"
	"testing"

	"beagle/api"
	"beagle/block"
	"beagle/class"
	"beagle/leaf"
	"beagle/naive"
)

// The elements of the samples: of one byte, of more, of none, of all.
var (
	a    = alone('a')
	b    = alone('b')
	c    = alone('c')
	zero = alone(0)
	last = alone(255)
	ab   = api.Class{0, 1<<('a'-64) | 1<<('b'-64), 0, 0}
	ends = api.Class{1, 0, 0, 1 << 63}
	most = api.Class{^uint64(0), ^uint64(0), ^uint64(0), ^uint64(0) >> 1}
	full = api.Class{^uint64(0), ^uint64(0), ^uint64(0), ^uint64(0)}
	none = api.Class{}
)

// noSizes are no sizes of any block.
var noSizes = []int{
	math.MinInt, math.MinInt + 1, -1 << 32, -8192, -4096, -64, -4, -2, -1, 0,
	3, 5, 6, 7, 9, 12, 31, 33, 63, 65, 96, 100, 127, 129, 1000, 2047, 2049, 3000, 4095, 4097, 6000, 8191, 8192, 8193, 1 << 14, 1 << 20, 1 << 32, 1<<32 + 4, 1 << 62, math.MaxInt,
}

// alone is the class of one byte, laid into words, as api says.
func alone(x byte) api.Class {
	var element api.Class
	element[x/64] = 1 << (x % 64)
	return element
}

func row(k int, elements ...api.Class) api.Leaf { return api.Leaf{P: elements, K: k} }

func times(n int, element api.Class) []api.Class {
	return slices.Repeat([]api.Class{element}, n)
}

// withK is l with another K.
func withK(l api.Leaf, k int) api.Leaf {
	l.K = k
	return l
}

// with is l with another element at one place.
func with(l api.Leaf, at int, element api.Class) api.Leaf {
	l.P = slices.Clone(l.P)
	l.P[at] = element
	return l
}

// numbers are n numbers below most, always the same ones for one seed.
func numbers(seed, n, most int) []int {
	x := uint64(88172645463325252) + uint64(seed)*2654435761
	l := make([]int, n)
	for i := range l {
		x ^= x << 13
		x ^= x >> 7
		x ^= x << 17
		l[i] = int(x>>33) % most
	}
	return l
}

// mixed is a leaf of n elements out of some, whose K is 0.
func mixed(seed, n int, some ...api.Class) api.Leaf {
	var l api.Leaf
	for _, x := range numbers(seed, n, len(some)) {
		l.P = append(l.P, some[x])
	}
	return l
}

// written is a text of n bytes out of some.
func written(seed, n int, some string) string {
	t := make([]byte, n)
	for i, x := range numbers(seed, n, len(some)) {
		t[i] = some[x]
	}
	return string(t)
}

// rising is all bytes, each once.
func rising() string {
	text := make([]byte, 256)
	for i := range text {
		text[i] = byte(i)
	}
	return string(text)
}

// has reads a class's bits, as api says of its words.
func has(element api.Class, x int) bool {
	return element[x/64]&(1<<(x%64)) != 0
}

// valueOf tells the value by the definition, from the class's bits.
func valueOf(element api.Class) int {
	value, bytes := 0, 0
	for x := range 256 {
		if has(element, x) {
			value, bytes = x+1, bytes+1
		}
	}
	if bytes != 1 {
		return 0
	}
	return value
}

func weightOf(l api.Leaf) uint64 {
	weight := 0
	for _, element := range l.P {
		weight += valueOf(element) * valueOf(element) * valueOf(element)
	}
	return uint64(weight)
}

// sumsOf tells by the definition the sums of a leaf that may be.
func sumsOf(l api.Leaf, text string) []uint64 {
	values := make([]int, len(l.P))
	for j, element := range l.P {
		values[j] = valueOf(element)
	}
	var sums []uint64
	for i := 0; i+len(l.P) <= len(text); i++ {
		sum := 0
		for j, p := range values {
			apart := p - (int(text[i+j]) + 1)
			sum += p * apart * apart
		}
		sums = append(sums, uint64(sum))
	}
	return sums
}

// zerosOf tells the places of the sums that are 0.
func zerosOf(sums []uint64) []int {
	var zeros []int
	for i := range len(sums) {
		if sums[i] == 0 {
			zeros = append(zeros, i)
		}
	}
	return zeros
}

// sizesOf are all sizes of blocks of so many numbers.
func sizesOf(m int) []int {
	var sizes []int
	for size := 1; size <= 4096; size *= 2 {
		if size >= m {
			sizes = append(sizes, size)
		}
	}
	return sizes
}

// plain are leaves at the edges and ordinary ones that are right, and Plain, with 0 as K.
func plain() []api.Leaf {
	leaves := []api.Leaf{
		row(0, a), row(0, full), row(0, zero), row(0, last), row(0, alone(127)), row(0, alone(128)),
		row(0, a, b), row(0, b, a), row(0, a, a), row(0, a, b, c), row(0, c, b, a), row(0, a, b, a),
		row(0, full, a), row(0, a, full), row(0, a, full, b), row(0, full, full), row(0, full, a, full), row(0, full, full, a, full, full, b, full),
		row(0, zero, zero), row(0, zero, last), row(0, last, zero), row(0, zero, full, last), row(0, alone(127), alone(128), alone(129)),
		row(0, times(63, a)...), row(0, times(64, a)...), row(0, times(64, full)...), row(0, times(64, last)...), row(0, times(64, zero)...),
		with(row(0, times(64, full)...), 0, a), with(row(0, times(64, full)...), 63, b), with(row(0, times(64, a)...), 31, full),
	}
	for seed := range 4 {
		leaves = append(leaves,
			mixed(seed, 2+seed, a, b),
			mixed(seed, 3+seed*2, a, b, full),
			mixed(seed, 30+seed*11, a, b, c, full, full),
			mixed(seed, 4, zero, last, full, alone(128)))
	}
	return leaves
}

// texts are at the edges and ordinary; bytes that are no runes are among them.
func texts() []string {
	all := []string{
		"", "a", "b", "ab", "ba", "aa", "abc", "abab", "aaaa", "abcbb", "axbabcab",
		"\x00", "\xff", "\x7f\x80", "\x00\x00\x00", "\xff\xff\xff", "\x00\x7f\x80\xff\x00\xff\x00\x00", "\x80\x80\x81", "\xc3", "a\x80b\xffab", "\xed\xa0\x80ab", "\xf0\x9fab",
		"é", "日本ab", "x😀y", "\ufffdab",
		strings.Repeat("a", 63), strings.Repeat("a", 64), strings.Repeat("a", 65), strings.Repeat("ab", 40),
		strings.Repeat("\x00", 66), strings.Repeat("\xff", 66), strings.Repeat("a", 63) + "b" + strings.Repeat("a", 64),
	}
	for seed := range 3 {
		all = append(all, written(seed, 20+seed*37, "ab"), written(seed, 90, "abcx"), written(seed, 150, "\x00\x7f\x80\xff"))
	}
	return all
}

// notRight are leaves that are not right, each for one cause, but the last ones.
func notRight() []api.Leaf {
	return []api.Leaf{
		{}, {P: []api.Class{}}, {K: 1}, {K: 64}, leaf.Text("", 0),
		row(0, times(65, a)...), row(0, times(65, full)...), leaf.Text(strings.Repeat("ab", 33), 0), row(0, times(300, last)...),
		row(0, none), row(0, none, a), row(0, a, none), row(0, a, none, b), row(0, none, none), with(row(0, times(64, a)...), 63, none), with(row(0, times(64, full)...), 0, none),
		row(-1, a), row(-1, a, b), row(-1, full), row(-64, a, b), row(math.MinInt, a),
		row(65, a), row(65, a, b), row(65, full), row(65, times(64, a)...), row(1000, a), row(math.MaxInt, a),
		row(-1), row(65, none), row(-1, times(65, none)...),
	}
}

// notPlain are leaves that are right, but have an element of more bytes than one that is not free.
func notPlain() []api.Leaf {
	var leaves []api.Leaf
	for _, other := range []api.Class{ab, ends, most, class.Not(zero), class.Not(a), class.Range('a', 'c'), class.Range(0, 127)} {
		leaves = append(leaves,
			row(0, other), row(0, other, a), row(0, a, other), row(0, a, other, b), row(0, other, full), row(0, full, full, other),
			row(1, other, a), row(64, other), with(row(0, times(64, a)...), 63, other), with(row(0, times(64, full)...), 0, other), row(0, times(64, other)...))
	}
	return leaves
}

// checkSums holds Sums against the sums and the number of transforms that are asked.
func checkSums(t *testing.T, l api.Leaf, text string, size, wantCount int, want ...uint64) {
	t.Helper()
	if got, count, errno := Sums(l, text, size); !slices.Equal(got, want) || count != wantCount || errno != api.OK {
		t.Errorf("P10.2: Sums of %v in %q, size %d, are %v, %d, %d, not %v, %d, 0", l, text, size, got, count, errno, want, wantCount)
	}
}

// checkFind holds Find against the places and the number of transforms that are asked.
func checkFind(t *testing.T, l api.Leaf, text string, size, wantCount int, want ...int) {
	t.Helper()
	if got, count, errno := Find(l, text, size); !slices.Equal(got, want) || count != wantCount || errno != api.OK {
		t.Errorf("P10.2: Find of %v in %q, size %d, tells %v, %d, %d, not %v, %d, 0", l, text, size, got, count, errno, want, wantCount)
	}
}

// check holds Sums and Find of a leaf that may be, whose K is 0, against the definition, for each of the sizes.
func check(t *testing.T, l api.Leaf, text string, sizes ...int) {
	t.Helper()
	sums := sumsOf(l, text)
	for _, size := range sizes {
		count := 2 * block.Count(len(l.P), len(text), size)
		checkSums(t, l, text, size, count, sums...)
		checkFind(t, l, text, size, count, zerosOf(sums)...)
	}
}

// checkSumsError holds the error of Sums, beside which there is nothing, against the one that is asked.
func checkSumsError(t *testing.T, l api.Leaf, text string, size int, want api.Errno) {
	t.Helper()
	if got, count, errno := Sums(l, text, size); len(got) != 0 || count != 0 || errno != want {
		t.Errorf("P10.2: Sums of %v in %q, size %d, are %v, %d, %d, not the error %d alone", l, text, size, got, count, errno, want)
	}
}

// checkFindError holds the error of Find likewise.
func checkFindError(t *testing.T, l api.Leaf, text string, size int, want api.Errno) {
	t.Helper()
	if got, count, errno := Find(l, text, size); len(got) != 0 || count != 0 || errno != want {
		t.Errorf("P10.2: Find of %v in %q, size %d, tells %v, %d, %d, not the error %d alone", l, text, size, got, count, errno, want)
	}
}

func checkValue(t *testing.T, element api.Class, want uint64) {
	t.Helper()
	if got := Value(element); got != want {
		t.Errorf("P10.1: Value of %v is %d, not %d", element, got, want)
	}
}

func checkWeight(t *testing.T, l api.Leaf, want uint64) {
	t.Helper()
	if got := Weight(l); got != want {
		t.Errorf("P10.1: Weight of %v is %d, not %d", l, got, want)
	}
}

func TestValueOfOneByte(t *testing.T) {
	checkValue(t, alone(0), 1)
	checkValue(t, alone(1), 2)
	checkValue(t, alone(63), 64)
	checkValue(t, alone(64), 65)
	checkValue(t, alone(127), 128)
	checkValue(t, alone(128), 129)
	checkValue(t, alone(254), 255)
	checkValue(t, alone(255), 256)
	for x := range 256 {
		checkValue(t, alone(byte(x)), uint64(x)+1)
		checkValue(t, class.Of(rising()[x:x+1]), uint64(x)+1)
		checkValue(t, class.Range(byte(x), byte(x)), uint64(x)+1)
	}
}

func TestValueOfAnotherClass(t *testing.T) {
	checkValue(t, none, 0)
	checkValue(t, full, 0)
	checkValue(t, class.Full(), 0)
	for x := range 256 {
		checkValue(t, class.Not(alone(byte(x))), 0)
		for y := range x {
			checkValue(t, class.Or(alone(byte(x)), alone(byte(y))), 0)
		}
	}
	checkValue(t, class.Range(0, 63), 0)
	checkValue(t, class.Range(64, 255), 0)
	checkValue(t, class.Of("abc"), 0)
}

func TestWeight(t *testing.T) {
	checkWeight(t, api.Leaf{}, 0)
	checkWeight(t, row(0, []api.Class{}...), 0)
	checkWeight(t, row(0, full), 0)
	checkWeight(t, row(0, full, full, full), 0)
	checkWeight(t, row(0, times(64, full)...), 0)
	checkWeight(t, row(0, zero), 1)
	checkWeight(t, row(0, zero, zero), 2)
	checkWeight(t, row(0, times(64, zero)...), 64)
	checkWeight(t, row(0, last), 16777216)
	checkWeight(t, row(0, zero, last), 16777217)
	checkWeight(t, row(0, times(63, last)...), 1056964608)
	checkWeight(t, row(0, times(64, last)...), 1073741824)
	checkWeight(t, row(0, alone(1), alone(2)), 8+27)
	checkWeight(t, row(0, alone(2), alone(1)), 8+27)
	checkWeight(t, row(0, alone(9), full, alone(9)), 2000)
	// Elements of more bytes than one have no value, nor have those of none.
	checkWeight(t, row(0, ab), 0)
	checkWeight(t, row(0, ab, alone(9), ends), 1000)
	checkWeight(t, row(0, most, alone(9)), 1000)
	checkWeight(t, row(0, none, alone(9), none), 1000)
	for x := range 256 {
		checkWeight(t, row(0, alone(byte(x))), uint64((x+1)*(x+1)*(x+1)))
	}
	for _, l := range slices.Concat(plain(), notPlain(), notRight()) {
		checkWeight(t, l, weightOf(l))
	}
}

func TestWeightOfALeafThatIsNotRight(t *testing.T) {
	checkWeight(t, row(0, times(65, last)...), 65*16777216)
	// Beyond 32 bits.
	checkWeight(t, row(0, times(300, last)...), 300*16777216)
	checkWeight(t, row(0, times(5000, last)...), 5000*16777216)
	checkWeight(t, row(0, alone(9), none), 1000)
	checkWeight(t, row(-1, alone(9)), 1000)
	checkWeight(t, row(65, alone(9)), 1000)
}

func TestWeightHangsNotOnK(t *testing.T) {
	for _, l := range []api.Leaf{{}, row(0, a), row(0, a, full, b), row(0, ab, a), row(0, times(64, last)...), row(0, none, a)} {
		for _, k := range []int{math.MinInt, -1, 0, 1, 2, 63, 64, 65, math.MaxInt} {
			checkWeight(t, withK(l, k), weightOf(l))
		}
	}
}

func TestLeafThatIsNotRightOrNotPlain(t *testing.T) {
	sizes := append(sizesOf(1), noSizes...)
	for _, l := range slices.Concat(notRight(), notPlain()) {
		for _, text := range []string{"", "a", "ab", "abab", strings.Repeat("a", 65), strings.Repeat("ab", 200)} {
			for _, size := range sizes {
				checkSumsError(t, l, text, size, api.ErrMatchForm)
				checkFindError(t, l, text, size, api.ErrMatchForm)
			}
		}
	}
	// Of the same lengths, with all else as it may be, there are sums.
	checkSums(t, row(0, times(64, a)...), strings.Repeat("a", 65), 64, 30, 0, 0)
	checkSums(t, row(64, a), "ab", 1, 30, 0, 98)
	checkSums(t, row(0, a), "ab", 1, 30, 0, 98)
}

func TestSizesThatMayBe(t *testing.T) {
	for m := 1; m <= 64; m++ {
		l := row(0, times(m, a)...)
		for _, n := range []int{m, m + 1, m + 40} {
			check(t, l, strings.Repeat("a", n), sizesOf(m)[0])
		}
		if m == 1 || m == 2 || m == 33 || m == 64 {
			check(t, l, written(m, 100, "ab"), sizesOf(m)...)
		}
	}
	check(t, leaf.Text("a", 0), "aba", 1, 2, 4096)
	check(t, leaf.Text("ab", 0), "aba", 2, 4, 4096)
	check(t, leaf.Text("abc", 0), "abcabc", 4, 8, 4096)
	check(t, leaf.Text("abcd", 0), "abcd", 4, 4096)
}

func TestSizesThatMayNotBe(t *testing.T) {
	for m := 1; m <= 64; m++ {
		l := row(0, times(m, a)...)
		least := sizesOf(m)[0]
		refused := append(slices.Clone(noSizes), least-1, m-1, -m, -least, least/2, 4097, 8192)
		for size := 1; size < m; size *= 2 {
			refused = append(refused, size)
		}
		for _, n := range []int{m, m + 1, m + 100} {
			for _, size := range refused {
				if slices.Contains(sizesOf(m), size) {
					continue
				}
				text := strings.Repeat("a", n)
				checkSumsError(t, l, text, size, api.ErrBlockSize)
				checkFindError(t, l, text, size, api.ErrBlockSize)
				checkSumsError(t, withK(l, 1), text, size, api.ErrBlockSize)
			}
		}
	}
	// A size may be none, however little there is to be told: free elements, and no more of them than bytes.
	checkSumsError(t, row(0, full), "a", 0, api.ErrBlockSize)
	checkSumsError(t, row(0, full, full), "ab", 1, api.ErrBlockSize)
	checkFindError(t, row(0, full, full), "ab", 1, api.ErrBlockSize)
}

func TestNoSizeIsRefusedWhereTheLeafIsLonger(t *testing.T) {
	for _, size := range append(sizesOf(1), noSizes...) {
		for m := 1; m <= 64; m++ {
			for _, n := range []int{0, m / 2, m - 1} {
				checkSums(t, row(0, times(m, a)...), strings.Repeat("a", n), size, 0)
				checkFind(t, row(0, times(m, a)...), strings.Repeat("a", n), size, 0)
			}
		}
		checkSums(t, row(0, full, full), "a", size, 0)
		checkSums(t, row(3, a, full), "a", size, 0)
		checkFind(t, row(0, full), "", size, 0)
		checkFindError(t, row(1, a, b), "a", size, api.ErrMatchForm)
	}
}

func TestLeafAndTextOfAllLengths(t *testing.T) {
	for m := 1; m <= 64; m++ {
		l := mixed(m, m, a, b, full)
		for _, n := range []int{0, 1, m - 2, m - 1, m, m + 1, m + 2, 2 * m, 130} {
			text := written(m, max(0, n), "ab")
			check(t, l, text, 64)
			sums, _, _ := Sums(l, text, 128)
			if want := max(0, len(text)-m+1); len(sums) != want {
				t.Errorf("P10.2: %d elements in %d bytes have %d Sums", m, len(text), len(sums))
			}
		}
	}
	checkSums(t, leaf.Text("ab", 0), "ab", 2, 18, 0)
	checkSums(t, leaf.Text("ab", 0), "ac", 2, 18, 99)
	checkSums(t, leaf.Text("ab", 0), "a", 2, 0)
	checkSums(t, leaf.Text("ab", 0), "", 2, 0)
	checkSums(t, leaf.Text("ab", 0), "abc", 2, 30, 0, 98+99)
	checkSums(t, leaf.Text("ab", 0), "cab", 2, 30, 98*4+99, 0)
}

func TestSumsOfSquaresTimesValues(t *testing.T) {
	// The value of byte 1 is 2, that of byte 2 is 3: it is the element's value that is taken once, the text's not.
	checkSums(t, row(0, alone(1)), "\x01\x02\x04\x00\x0b", 8, 18, 0, 2, 18, 2, 200)
	checkSums(t, row(0, alone(2)), "\x01\x02\x04\x00\x0b", 8, 18, 3, 0, 12, 12, 243)
	checkSums(t, row(0, alone(1), alone(2)), "\x01\x02\x04\x00\x0b", 8, 18, 0, 2+12, 18+12, 2+243)
	checkSums(t, row(0, alone(1), full, alone(2)), "\x01\x02\x04\x00\x0b", 8, 18, 12, 2+12, 18+243)
	// What is more than the element, and what is less, are never set off against one another.
	checkSums(t, row(0, alone(5), alone(5)), "\x04\x06\x04", 4, 18, 12, 12)
	checkSums(t, row(0, alone(5), alone(5)), "\x06\x04\x06", 4, 18, 12, 12)
}

func TestOrderOfTheSums(t *testing.T) {
	// Each place has a sum of its own, by which it is known: 0, 1, 4, 9 ..
	text := rising()
	var want []uint64
	for i := range 256 {
		want = append(want, uint64(i*i))
	}
	for _, size := range []int{1, 2, 16, 256, 4096} {
		checkSums(t, row(0, zero), text, size, 2*block.Count(1, 256, size), want...)
		checkSums(t, row(0, zero, full), text, max(2, size), 2*block.Count(2, 256, max(2, size)), want[:255]...)
		checkSums(t, row(0, full, zero), text, max(2, size), 2*block.Count(2, 256, max(2, size)), want[1:]...)
		checkFind(t, row(0, zero), text, size, 2*block.Count(1, 256, size), 0)
	}
}

func TestFreeElements(t *testing.T) {
	// Alone.
	for _, m := range []int{1, 2, 3, 63, 64} {
		for _, text := range append(texts(), rising()) {
			zeros := make([]uint64, max(0, len(text)-m+1))
			checkSums(t, row(0, times(m, full)...), text, 64, 2*block.Count(m, len(text), 64), zeros...)
			checkFind(t, row(0, times(m, full)...), text, 64, 2*block.Count(m, len(text), 64), zerosOf(zeros)...)
		}
	}
	checkSums(t, row(0, full), "ab\x00\xff", 1, 54, 0, 0, 0, 0)
	// At the beginning, in the middle, at the end.
	checkSums(t, row(0, full, b), "abcb", 4, 18, 0, 99, 0)
	checkSums(t, row(0, b, full), "abcb", 4, 18, 99, 0, 99)
	checkSums(t, row(0, a, full, b), "abcb", 4, 18, 99, 98)
	checkSums(t, row(0, a, full, b), "axbxb\xff\x00", 8, 18, 0, 98*23*23+99*22*22, 98, 98*23*23+99*157*157, 98+99*98*98)
	checkSums(t, row(0, full, full, b, full), "aabaaaba", 8, 18, 0, 99, 99, 99, 0)
	checkFind(t, row(0, full, full, b, full), "aabaaaba", 8, 18, 0, 4)
	for at := range 64 {
		l := with(row(0, times(64, full)...), at, b)
		text := []byte(strings.Repeat("a", 65))
		text[at] = 'b'
		checkSums(t, l, string(text), 64, 30, 0, 99)
		checkFind(t, l, string(text), 64, 30, 0)
		checkFind(t, with(row(0, times(64, a)...), at, full), string(text)[:64], 64, 18, 0)
	}
}

func TestGreatestAgainstLeast(t *testing.T) {
	const great, small = 256 * 255 * 255, 1 * 255 * 255
	for _, size := range []int{64, 128, 4096} {
		count := 2 * block.Count(64, 66, size)
		checkSums(t, row(0, times(64, last)...), strings.Repeat("\x00", 66), size, count, 64*great, 64*great, 64*great)
		checkSums(t, row(0, times(64, zero)...), strings.Repeat("\xff", 66), size, count, 64*small, 64*small, 64*small)
		checkSums(t, row(0, times(64, last)...), strings.Repeat("\xff", 66), size, count, 0, 0, 0)
		checkSums(t, row(0, times(64, zero)...), strings.Repeat("\x00", 66), size, count, 0, 0, 0)
		checkSums(t, row(0, times(64, last)...), strings.Repeat("\xff", 65)+"\x00", size, count, 0, 0, great)
		checkSums(t, row(0, times(64, last)...), strings.Repeat("\x00", 65)+"\xff", size, count, 64*great, 64*great, 63*great)
		checkSums(t, row(0, times(64, last)...), strings.Repeat("\xfe", 66), size, count, 64*256, 64*256, 64*256)
		checkSums(t, row(0, times(64, zero)...), strings.Repeat("\x01", 66), size, count, 64, 64, 64)
	}
	checkSums(t, row(0, last), "\x00\xff\xfe", 1, 42, great, 0, 256)
	checkSums(t, row(0, zero), "\x00\xff\xfe", 1, 42, 0, small, 254*254)
	checkSums(t, row(0, zero, last), "\x00\xff\x00", 2, 30, 0, small+great)
	checkSums(t, row(0, last, zero), "\x00\xff\x00", 2, 30, small+great, 0)
}

func TestEachByteAgainstEachByte(t *testing.T) {
	text := rising()
	for x := range 256 {
		check(t, row(0, alone(byte(x))), text, 512)
		checkFind(t, row(0, alone(byte(x))), text, 256, 18, x)
	}
	// Bytes that are part of a rune are bytes.
	checkFind(t, leaf.Text("\xa9", 0), "éaé", 8, 18, 1, 4)
	checkFind(t, leaf.Text("\x9f\x98", 0), "😀", 4, 18, 1)
	checkFind(t, leaf.Text("本", 0), "日本", 8, 18, 3)
	checkFind(t, leaf.Text("\x80", 0), "\x81\x82\xfd\xff\ufffd", 8, 18)
	checkFind(t, leaf.Text("b", 0), "\xed\xa0\x80b", 4, 18, 3)
}

func TestHowManyTransforms(t *testing.T) {
	// Written out once: 3, and 6 for each block, and all of it twice.
	text := strings.Repeat("ab", 5)
	for _, x := range []struct{ m, size, want int }{
		{1, 1, 126}, {1, 2, 66}, {1, 4, 42}, {1, 8, 30}, {1, 16, 18}, {1, 4096, 18},
		{2, 2, 114}, {2, 4, 42}, {2, 8, 30}, {2, 16, 18},
		{4, 4, 90}, {4, 8, 30}, {5, 8, 30}, {8, 8, 42}, {9, 16, 18}, {10, 16, 18}, {10, 4096, 18}, {11, 16, 0},
	} {
		l := row(0, times(x.m, full)...)
		checkSums(t, l, text, x.size, x.want, make([]uint64, max(0, 11-x.m))...)
		if _, count, errno := Find(l, text, x.size); count != x.want || errno != api.OK {
			t.Errorf("P10.2: Find of %d elements, size %d, tells %d transforms, %d, not %d, 0", x.m, x.size, count, errno, x.want)
		}
	}
	// They hang on no byte.
	for _, l := range []api.Leaf{leaf.Text("ab", 0), leaf.Text("zz", 0), row(0, full, b)} {
		for _, other := range []string{text, strings.Repeat("z", 10), strings.Repeat("\x00", 10)} {
			if _, count, _ := Sums(l, other, 4); count != 42 {
				t.Errorf("P10.2: Sums of %v in %q tell %d transforms, not 42", l, other, count)
			}
		}
	}
}

func TestSumsHangNotOnK(t *testing.T) {
	for _, l := range []api.Leaf{leaf.Text("a", 0), leaf.Text("ab", 0), row(0, a, full, b), row(0, full), mixed(3, 20, a, b, full)} {
		for _, text := range []string{"", "ab", "abab", strings.Repeat("aab", 20)} {
			want := sumsOf(l, text)
			for k := range 65 {
				checkSums(t, withK(l, k), text, 32, 2*block.Count(len(l.P), len(text), 32), want...)
			}
		}
	}
	// Above and below what K may be the leaf is not right.
	for _, k := range []int{math.MinInt, -2, -1, 65, 66, math.MaxInt} {
		checkSumsError(t, leaf.Text("ab", k), "abab", 4, api.ErrMatchForm)
		checkFindError(t, leaf.Text("ab", k), "abab", 4, api.ErrMatchForm)
	}
}

func TestFindOfAnotherK(t *testing.T) {
	for k := 1; k <= 64; k++ {
		for _, text := range []string{"", "a", "ab", "abab"} {
			for _, size := range append([]int{2, 4, 4096}, noSizes...) {
				checkFindError(t, leaf.Text("ab", k), text, size, api.ErrMatchForm)
				checkFindError(t, row(k, full, full), text, size, api.ErrMatchForm)
			}
		}
	}
}

func TestFindWhereItStands(t *testing.T) {
	checkFind(t, leaf.Text("c", 0), "abab", 4, 18)
	checkFind(t, leaf.Text("ba", 0), "aabb", 4, 18)
	checkFind(t, leaf.Text("ab", 0), "xxxxxa", 8, 18)
	checkFind(t, leaf.Text("ab", 0), "abxxxx", 8, 18, 0)
	checkFind(t, leaf.Text("ab", 0), "xxabxx", 8, 18, 2)
	checkFind(t, leaf.Text("ab", 0), "xxxxab", 8, 18, 4)
	checkFind(t, leaf.Text("ab", 0), "abxabxab", 8, 18, 0, 3, 6)
	checkFind(t, leaf.Text("abc", 0), "abc", 4, 18, 0)
	checkFind(t, leaf.Text("abd", 0), "abc", 4, 18)
	// Places that overlap.
	checkFind(t, leaf.Text("aa", 0), "aaaa", 4, 18, 0, 1, 2)
	checkFind(t, leaf.Text("aba", 0), "ababababa", 16, 18, 0, 2, 4, 6)
	checkFind(t, row(0, a, full, a), "aaaba", 8, 18, 0, 2)
	checkFind(t, row(0, full), "abc", 4, 18, 0, 1, 2)
	// What is found lies in several blocks, and on their edges.
	checkFind(t, leaf.Text("ab", 0), "xababxabab", 2, 114, 1, 3, 6, 8)
	checkFind(t, leaf.Text("ab", 0), "xababxabab", 4, 42, 1, 3, 6, 8)
	checkFind(t, leaf.Text("aaa", 0), "aaaaaaa", 4, 42, 0, 1, 2, 3, 4)
	// The text's end and its beginning together are no place.
	checkFind(t, leaf.Text("ba", 0), "ab", 2, 18)
	checkFind(t, leaf.Text("bca", 0), "abcbc", 8, 18)
	// What is missed by one byte's least step is missed.
	for at := range 64 {
		l, text := row(0, times(64, b)...), []byte(strings.Repeat("b", 64))
		text[at] = 'a'
		checkFind(t, l, string(text), 64, 18)
		text[at] = 'c'
		checkFind(t, l, string(text), 64, 18)
		text[at] = 'b'
		checkFind(t, l, string(text), 64, 18, 0)
	}
}

func TestSamples(t *testing.T) {
	for i, l := range plain() {
		sizes := sizesOf(len(l.P))
		for _, text := range texts() {
			check(t, l, text, sizes[0], 128)
		}
		// All sizes take long: one text takes each.
		check(t, l, written(i, 60+i, "ab\x00\xff"), sizes...)
	}
}

func TestFindIsFindElementByElement(t *testing.T) {
	for i, l := range plain() {
		for _, text := range append(texts(), rising()) {
			want := naive.Find(l, text)
			sizes := sizesOf(len(l.P))[:2]
			// All sizes take long: some of the leaves take each, in some of the texts.
			if i%8 == 0 && len(text)%5 == 0 {
				sizes = sizesOf(len(l.P))
			}
			for _, size := range sizes {
				if got, _, errno := Find(l, text, size); !slices.Equal(got, want) || errno != api.OK {
					t.Errorf("P10.3: Find of %v in %q, size %d, tells %v, %d, element by element %v", l, text, size, got, errno, want)
				}
			}
		}
	}
}

func TestSumIsZeroJustWhereNothingIsMissed(t *testing.T) {
	for _, l := range plain() {
		for _, text := range append(texts(), rising()) {
			sums, _, errno := Sums(l, text, 128)
			counts := naive.Counts(l, text)
			if len(sums) != len(counts) || errno != api.OK {
				t.Errorf("P10.3: %v in %q has %d sums, %d counts, %d", l, text, len(sums), len(counts), errno)
				continue
			}
			for i, sum := range sums {
				if (sum == 0) != (counts[i] == 0) {
					t.Errorf("P10.3: %v in %q has the sum %d at %d, and misses %d", l, text, sum, i, counts[i])
				}
			}
		}
	}
}

// every is all texts of up to n bytes out of some.
func every(n int, some string) []string {
	all, longest := []string{""}, []string{""}
	for range n {
		var longer []string
		for _, text := range longest {
			for i := range len(some) {
				longer = append(longer, text+some[i:i+1])
			}
		}
		all, longest = append(all, longer...), longer
	}
	return all
}

func TestAllShortLeavesInAllShortTexts(t *testing.T) {
	for _, pattern := range every(3, "\x00\xff?")[1:] {
		l := leaf.Text(pattern, 0)
		for i := range len(pattern) {
			if pattern[i] == '?' {
				l.P[i] = full
			}
		}
		for _, text := range every(5, "\x00\xff") {
			check(t, l, text, 4, 8)
		}
	}
}

func TestLongText(t *testing.T) {
	text := written(7, api.MaxText, "ab")
	l := row(0, a, full, b, b, full, a, a, full, full, b)
	want := sumsOf(l, text)
	found := naive.Find(l, text)
	if len(found) == 0 || len(found) == len(want) {
		t.Fatalf("the long text tells nothing: %d of %d places", len(found), len(want))
	}
	for _, size := range []int{64, 4096} {
		count := 2 * block.Count(len(l.P), len(text), size)
		if got, took, errno := Sums(l, text, size); !slices.Equal(got, want) || took != count || errno != api.OK {
			t.Errorf("P10.2: Sums in a long text, size %d, are wrong, or tell %d transforms, not %d", size, took, count)
		}
		if got, took, errno := Find(l, text, size); !slices.Equal(got, found) || took != count || errno != api.OK {
			t.Errorf("P10.2: Find in a long text, size %d, is wrong, or tells %d transforms, not %d", size, took, count)
		}
	}
}

func TestWhatIsGivenStays(t *testing.T) {
	for _, l := range slices.Concat(plain(), notRight(), []api.Leaf{row(0, ab, a), row(0, most), row(2, a, full)}) {
		// What lies behind the elements in their memory is not the leaf's.
		memory := append(slices.Clone(l.P), ends, ab, ends)
		given := api.Leaf{P: memory[:len(l.P)], K: l.K}
		before := slices.Clone(memory)
		for _, text := range []string{"", "abab", strings.Repeat("ab", 60)} {
			for _, size := range []int{0, 4, 64} {
				Sums(given, text, size)
				Find(given, text, size)
			}
			Weight(given)
		}
		if !slices.Equal(memory, before) || given.K != l.K || len(given.P) != len(l.P) {
			t.Errorf("R5: the calls change %v", before)
		}
	}
}

// spoil writes into a list, and behind it.
func spoil[T int | uint64](l []T) {
	for i := range l {
		l[i] = 7
	}
	_ = append(l, 7)
}

func TestWhatIsToldIsTheCallersOwn(t *testing.T) {
	l, text := row(0, a, full, b), "aabxabaxbaab"
	wantSums := sumsOf(l, text)
	wantFound := zerosOf(wantSums)
	sums, _, _ := Sums(l, text, 4)
	found, _, _ := Find(l, text, 4)
	otherSums, _, _ := Sums(l, text, 4)
	otherFound, _, _ := Find(l, text, 4)
	spoil(sums)
	spoil(found)
	checkSums(t, l, text, 4, 2*block.Count(3, len(text), 4), wantSums...)
	checkFind(t, l, text, 4, 2*block.Count(3, len(text), 4), wantFound...)
	// Nor is what was told a view of the leaf that was given.
	l.P[0], l.P[1], l.P[2] = ends, ends, ends
	if !slices.Equal(otherSums, wantSums) || !slices.Equal(otherFound, wantFound) {
		t.Error("R6: to write into the leaf, or what another call told of it, changes what was told")
	}
}

func TestTheSameIsToldAlways(t *testing.T) {
	l, text := mixed(2, 6, a, b, full), written(3, 300, "ab")
	sums := sumsOf(l, text)
	found, count := zerosOf(sums), 2*block.Count(6, 300, 32)
	for range 50 {
		// Calls between that tell something else, or errors, leave no trace.
		Sums(leaf.Text("zz", 0), "azzz", 8)
		Find(leaf.Text("b", 0), "abb", 1)
		Find(leaf.Text("b", 1), "abb", 1)
		Sums(row(0, ab), "abb", 0)
		Sums(l, text, 3)
		checkSums(t, l, text, 32, count, sums...)
		checkFind(t, l, text, 32, count, found...)
		checkWeight(t, l, weightOf(l))
		checkValue(t, a, 98)
	}
	// The same elements, and bytes, in other memory are the same.
	other := api.Leaf{P: append(make([]api.Class, 0, 100), l.P...), K: l.K}
	checkSums(t, other, strings.Clone(text), 32, count, sums...)
	checkFind(t, other, (text + "ab")[:300], 32, count, found...)
}

func TestExamples(t *testing.T) {
	checkSums(t, row(0, b, full), "abc", 2, 30, 99, 0)
	checkFind(t, row(0, b, full), "abc", 2, 30, 1)
}
