package zed

import (
	"math"
	"slices"
	"strings"
	"testing"

	"beagle/api"
	"beagle/leaf"
	"beagle/naive"
)

// The elements of the samples: of one byte, of more, of none, of all.
var (
	a    = alone('a')
	b    = alone('b')
	ab   = api.Class{0, 1<<('a'-64) | 1<<('b'-64), 0, 0}
	ends = api.Class{1, 0, 0, 1 << 63}
	most = api.Class{^uint64(0), ^uint64(0), ^uint64(0), ^uint64(0) >> 1}
	full = api.Class{^uint64(0), ^uint64(0), ^uint64(0), ^uint64(0)}
	none = api.Class{}
)

// alone is the class of one byte, laid into words, as api says.
func alone(x byte) api.Class {
	var element api.Class
	element[x/64] = 1 << (x % 64)
	return element
}

func row(k int, elements ...api.Class) api.Leaf { return api.Leaf{P: elements, K: k} }

func times(n int, element api.Class) []api.Class {
	return slices.Repeat([]api.Class{element}, n)
}

// written is a text of n bytes out of some, always the same one for one seed.
func written(seed, n int, some string) string {
	x := uint64(88172645463325252) + uint64(seed)*2654435761
	text := make([]byte, n)
	for i := range text {
		x ^= x << 13
		x ^= x >> 7
		x ^= x << 17
		text[i] = some[int(x>>33)%len(some)]
	}
	return string(text)
}

// rising is all bytes, each once.
func rising() string {
	text := make([]byte, 256)
	for i := range text {
		text[i] = byte(i)
	}
	return string(text)
}

// every is all texts of n bytes out of some.
func every(n int, some string) []string {
	all := []string{""}
	for range n {
		var longer []string
		for _, text := range all {
			for i := range len(some) {
				longer = append(longer, text+some[i:i+1])
			}
		}
		all = longer
	}
	return all
}

// upTo is all texts of 0 to n bytes out of some.
func upTo(n int, some string) []string {
	var all []string
	for length := range n + 1 {
		all = append(all, every(length, some)...)
	}
	return all
}

// texts are at the edges and ordinary; bytes that are no runes are among them.
func texts() []string {
	all := []string{
		"", "a", "b", "aa", "ab", "ba", "aab", "aabaa", "abcabcab", "aabcaabxaaaz", "abab", "ababab", "abaababaabaab",
		"\x00", "\xff", "\x00\x00\x00", "\xff\xff\xff", "\x7f\x80", "\x80\x80\x81\x80\x80", "\x00\x7f\x80\xff\x00\x7f\x80", "a\x80a\xffa\x80",
		"\xc3", "\xc3\xa9\xc3", "\xed\xa0\x80\xed\xa0", "\xf0\x9f\x98\xf0\x9f", "\xfe\xff\xfe",
		"é", "éè", "日本日", "x😀x😀", "\ufffd\ufffd",
		strings.Repeat("a", 63), strings.Repeat("a", 64), strings.Repeat("a", 300), strings.Repeat("ab", 60), strings.Repeat("\x80", 70),
		strings.Repeat("a", 100) + "b" + strings.Repeat("a", 100), strings.Repeat("a", 100) + "b" + strings.Repeat("a", 101) + "b",
		rising(), rising() + rising(), rising() + "\x00\x01" + rising(),
	}
	for seed := range 8 {
		all = append(all,
			written(seed, 60+seed*9, "ab"), written(seed, 120, "abc"), written(seed, 90, "\x00\x7f\x80\xff"),
			strings.Repeat(written(seed, 3+seed, "ab"), 7), strings.Repeat(written(seed, 11+seed, "aab"), 5)+"aa")
	}
	return all
}

// rowsOf tells the rows by their definition, each from its first byte on.
func rowsOf(s string) []int {
	var rows []int
	for i := range len(s) {
		same := 0
		for i+same < len(s) && s[i+same] == s[same] {
			same++
		}
		rows = append(rows, same)
	}
	return rows
}

// placesOf tells by the definition where p stands in text, one byte after the other.
func placesOf(p, text string) []int {
	var places []int
	for i := 0; p != "" && i+len(p) <= len(text); i++ {
		same := true
		for j := range len(p) {
			same = same && p[j] == text[i+j]
		}
		if same {
			places = append(places, i)
		}
	}
	return places
}

// moves tells by the definition whether each byte of s that has one n places behind is that one.
func moves(s string, n int) bool {
	for i := 0; i+n < len(s); i++ {
		if s[i] != s[i+n] {
			return false
		}
	}
	return true
}

func periodOf(s string) int {
	for n := 1; n < len(s); n++ {
		if moves(s, n) {
			return n
		}
	}
	return len(s)
}

func checkRows(t *testing.T, s string, want ...int) {
	t.Helper()
	if got := Rows(s); !slices.Equal(got, want) {
		t.Errorf("P9.1: Rows of %q are %v, not %v", s, got, want)
	}
}

func checkFind(t *testing.T, p, text string, want ...int) {
	t.Helper()
	if got := Find(p, text); !slices.Equal(got, want) {
		t.Errorf("P9.2: Find of %q in %q tells %v, not %v", p, text, got, want)
	}
}

func checkLeaf(t *testing.T, l api.Leaf, text string, wantIs bool, want ...int) {
	t.Helper()
	if got, is := Leaf(l, text); !slices.Equal(got, want) || is != wantIs {
		t.Errorf("P9.2: Leaf of %v in %q tells %v, %v, not %v, %v", l, text, got, is, want, wantIs)
	}
}

func checkPeriod(t *testing.T, s string, want int) {
	t.Helper()
	if got := Period(s); got != want {
		t.Errorf("P9.2: Period of %q is %d, not %d", s, got, want)
	}
}

func TestRowsOfShortTexts(t *testing.T) {
	checkRows(t, "")
	checkRows(t, "a", 1)
	checkRows(t, "\x00", 1)
	checkRows(t, "\x80", 1)
	checkRows(t, "aa", 2, 1)
	checkRows(t, "ab", 2, 0)
	checkRows(t, "\x80\x80", 2, 1)
	// As runes, these two would be the same.
	checkRows(t, "\x80\x81", 2, 0)
	checkRows(t, "\xff\x00", 2, 0)
}

func TestRowsOfOneByteManyTimes(t *testing.T) {
	for _, x := range []string{"a", "\x00", "\x7f", "\x80", "\xff"} {
		for _, n := range []int{3, 4, 63, 64, 65, 500} {
			var want []int
			for i := range n {
				want = append(want, n-i)
			}
			checkRows(t, strings.Repeat(x, n), want...)
		}
	}
}

func TestRowsOfTextWithoutAByteTwice(t *testing.T) {
	for n := range 257 {
		want := make([]int, n)
		if n > 0 {
			want[0] = n
		}
		checkRows(t, rising()[:n], want...)
		checkRows(t, rising()[256-n:], want...)
	}
}

func TestRowsWhereTheBeginningStandsAgain(t *testing.T) {
	checkRows(t, "abxaby", 6, 0, 0, 2, 0, 0)
	checkRows(t, "abcxabcyabc", 11, 0, 0, 0, 3, 0, 0, 0, 3, 0, 0)
	checkRows(t, "abxabyab", 8, 0, 0, 2, 0, 0, 2, 0)
	checkRows(t, "xyyyx", 5, 0, 0, 0, 1)
	checkRows(t, "\x00\x80\xff\x00\x80", 5, 0, 0, 2, 0)
	// A row that goes to the text's end.
	checkRows(t, "abcabc", 6, 0, 0, 3, 0, 0)
	checkRows(t, "abcabcab", 8, 0, 0, 5, 0, 0, 2, 0)
	checkRows(t, "aabaabaa", 8, 1, 0, 5, 1, 0, 2, 1)
	checkRows(t, "éé", 4, 0, 2, 0)
}

func TestRowsByWhatWasSeenFarthest(t *testing.T) {
	// From 3 on it was seen up to 5: that end lies just ahead of 6, at which the beginning stands again; 5 is the end, 4 lies ahead of it.
	checkRows(t, "abxabyabx", 9, 0, 0, 2, 0, 0, 3, 0, 0)
	checkRows(t, "abxabcababxab", 13, 0, 0, 2, 0, 0, 2, 0, 5, 0, 0, 2, 0)
	// From 3 on it was seen up to 5, and from 5 on the beginning stands again.
	checkRows(t, "abxababx", 8, 0, 0, 2, 0, 3, 0, 0)
	// From 1 on it was seen up to 2, where the beginning stands not.
	checkRows(t, "aabaab", 6, 1, 0, 3, 1, 0)
	// At 4 the row that is known (1) goes up to the end of what was seen from 3 on (5): there it goes on.
	checkRows(t, "aabaaa", 6, 1, 0, 2, 2, 1)
	// From 6 on it was seen up to 11: the row that is known of 7 ends ahead of that, the one of 9 there, and it goes on.
	checkRows(t, "aabaacaabaab", 12, 1, 0, 2, 1, 0, 5, 1, 0, 3, 1, 0)
	// From 4 on it was seen up to 7: from 5 on two more are known, and the next two are new.
	checkRows(t, "aaabaaaab", 9, 2, 1, 0, 3, 4, 2, 1, 0)
	// From 6 on it was seen up to 11: the row that is known of 8 (3) ends there, and goes on by one.
	checkRows(t, "ababacababab", 12, 0, 3, 0, 1, 0, 5, 0, 4, 0, 2, 0)
	// The row that is known would go beyond what was seen, where another byte stands.
	checkRows(t, "aaaabaaab", 9, 3, 2, 1, 0, 3, 2, 1, 0)
}

func TestRowsOfAllShortTexts(t *testing.T) {
	for _, s := range slices.Concat(upTo(12, "ab"), upTo(7, "abc"), upTo(5, "\x00\x7f\x80\xff"), texts()) {
		checkRows(t, s, rowsOf(s)...)
	}
}

func TestRowsAreOneAPlace(t *testing.T) {
	for _, s := range texts() {
		rows := Rows(s)
		if len(rows) != len(s) {
			t.Errorf("P9.1: %q has %d rows", s, len(rows))
		}
		if len(s) > 0 && rows[0] != len(s) {
			t.Errorf("P9.1: the first row of %q is %d", s, rows[0])
		}
		for i, same := range rows {
			if same < 0 || i+same > len(s) || s[i:i+same] != s[:same] || i+same < len(s) && s[i+same] == s[same] {
				t.Errorf("P9.1: the row of %q at %d is %d", s, i, same)
			}
		}
	}
}

func TestFindAtTheEdges(t *testing.T) {
	for _, text := range texts() {
		checkFind(t, "", text)
		checkFind(t, text+"a", text)
		checkFind(t, text+text+"b", text)
		if text != "" {
			checkFind(t, text, "")
			checkFind(t, text, text, 0)
			checkFind(t, text, text[1:])
		}
	}
	// Longer than the text, as long as it, one shorter.
	checkFind(t, "abc", "ab")
	checkFind(t, "abc", "abc", 0)
	checkFind(t, "abd", "abc")
	checkFind(t, "abc", "abcd", 0)
	checkFind(t, "bcd", "abcd", 1)
	checkFind(t, "abd", "abcd")
	checkFind(t, "aaa", "aaaa", 0, 1)
	checkFind(t, "a", "")
	checkFind(t, "", "")
}

func TestFindWhereItStands(t *testing.T) {
	checkFind(t, "ab", "abxxxx", 0)
	checkFind(t, "ab", "xxabxx", 2)
	checkFind(t, "ab", "xxxxab", 4)
	checkFind(t, "ab", "xxxxxa")
	checkFind(t, "ab", "bbbaaa")
	checkFind(t, "ab", "abxabxab", 0, 3, 6)
	checkFind(t, "b", "abab", 1, 3)
	checkFind(t, "a", "aaa", 0, 1, 2)
	checkFind(t, "c", "abab")
	checkFind(t, "aab", "aaaaab", 3)
	// Places that overlap.
	checkFind(t, "aa", "aaaa", 0, 1, 2)
	checkFind(t, "aba", "ababababa", 0, 2, 4, 6)
	checkFind(t, "abcab", "abcabcabcab", 0, 3, 6)
	checkFind(t, "aabaa", "aabaabaabaa", 0, 3, 6)
	// What the text ends with is no p, however much of it stands there.
	checkFind(t, "abab", "ababaxaba", 0)
	// The pattern's end and the text's beginning together are no place.
	checkFind(t, "abab", "ab")
	checkFind(t, "aa", "a")
	checkFind(t, "ba", "ab")
	checkFind(t, "abab", "abxx")
}

func TestFindOfAllBytes(t *testing.T) {
	all := rising()
	for i := range 256 {
		one := all[i : i+1]
		checkFind(t, one, all, i)
		checkFind(t, one, all+all, i, i+256)
		checkFind(t, one+one, all)
		checkFind(t, one+one, one+one+one, 0, 1)
		checkFind(t, all[i:]+all[:i], all+all+all, placesOf(all[i:]+all[:i], all+all+all)...)
	}
	checkFind(t, "\x80", "\x81\x82\xfd\xff\ufffd")
	checkFind(t, "\x81", "\x80\x81\x80\x81", 1, 3)
	checkFind(t, "\x00", "a\x00\x00b", 1, 2)
	checkFind(t, "\x7f\x80", "\x80\x7f\x80\x7f", 1)
	checkFind(t, "\xff\x00", "\x00\xff\x00\xff\x00", 1, 3)
	// Bytes that are part of a rune are bytes.
	checkFind(t, "\xa9", "éaé", 1, 4)
	checkFind(t, "\xc3", "éaé", 0, 3)
	checkFind(t, "\x9f\x98", "😀", 1)
	checkFind(t, "é", "aéa", 1)
}

func TestFindOfAllShortTexts(t *testing.T) {
	shorter, longer := upTo(5, "ab"), upTo(9, "ab")
	for _, p := range shorter {
		for _, text := range longer {
			checkFind(t, p, text, placesOf(p, text)...)
		}
	}
	for _, p := range upTo(3, "\x00\x80\xff") {
		for _, text := range upTo(6, "\x00\x80\xff") {
			checkFind(t, p, text, placesOf(p, text)...)
		}
	}
}

func TestFindOfPiecesOfTexts(t *testing.T) {
	for _, text := range texts() {
		for from := 0; from < len(text); from += 1 + len(text)/7 {
			for to := from + 1; to <= len(text); to += 1 + len(text)/9 {
				p := text[from:to]
				checkFind(t, p, text, placesOf(p, text)...)
				checkFind(t, p, p+text+p, placesOf(p, p+text+p)...)
				checkFind(t, p+"\x01", text, placesOf(p+"\x01", text)...)
			}
		}
	}
}

func TestLeafThatIsNotRight(t *testing.T) {
	broken := times(64, a)
	broken[63] = none
	for _, l := range []api.Leaf{
		{}, {P: []api.Class{}}, {K: 1}, leaf.Text("", 0),
		row(0, times(65, a)...), leaf.Text(strings.Repeat("ab", 33), 0), row(0, times(300, a)...),
		row(0, none), row(0, none, a), row(0, a, none), row(0, a, none, b), row(0, broken...),
		row(-1, a), row(-1, a, b), row(math.MinInt, a), row(65, a), row(65, a, b), row(math.MaxInt, a), row(-1, times(65, none)...),
	} {
		for _, text := range append(texts(), strings.Repeat("a", 65), strings.Repeat("ab", 33), strings.Repeat("a", 400)) {
			checkLeaf(t, l, text, false)
		}
	}
}

func TestLeafThatIsRightButHasAnotherWay(t *testing.T) {
	for k := 1; k <= 64; k++ {
		checkLeaf(t, leaf.Text("a", k), "aaab", false)
		checkLeaf(t, leaf.Text("ab", k), "ab", false)
		checkLeaf(t, row(k, times(64, a)...), strings.Repeat("a", 64), false)
	}
	for _, other := range []api.Class{ab, ends, most, full} {
		for _, l := range []api.Leaf{row(0, other), row(0, other, a), row(0, a, other), row(0, a, other, b), row(0, append(times(63, a), other)...), row(1, a, other)} {
			for _, text := range texts() {
				checkLeaf(t, l, text, false)
			}
		}
	}
}

func TestLeafThatHasLetters(t *testing.T) {
	checkLeaf(t, row(0, a), "aba", true, 0, 2)
	checkLeaf(t, row(0, a, b), "abab", true, 0, 2)
	checkLeaf(t, row(0, a, a), "aaaa", true, 0, 1, 2)
	checkLeaf(t, row(0, alone(0), alone(255), alone(128)), "\x00\xff\x80\x00\xff\x80", true, 0, 3)
	// True, where nothing is found.
	checkLeaf(t, row(0, b), "aaa", true)
	checkLeaf(t, row(0, a, b), "", true)
	checkLeaf(t, row(0, a, b, a), "ab", true)
	checkLeaf(t, row(0, times(64, a)...), strings.Repeat("a", 63), true)
	checkLeaf(t, row(0, times(64, a)...), strings.Repeat("a", 64), true, 0)
	checkLeaf(t, row(0, times(64, a)...), strings.Repeat("a", 66), true, 0, 1, 2)
	for x := range 256 {
		checkLeaf(t, row(0, alone(byte(x))), rising(), true, x)
	}
}

func TestPeriod(t *testing.T) {
	for s, want := range map[string]int{
		"": 0, "a": 1, "\x00": 1, "\xff": 1, "aa": 1, "ab": 2, "aaa": 1, "\x80\x81": 2, "\x80\x80": 1,
		"abab": 2, "ababab": 2, "abcabc": 3, "abcabcabc": 3, "aabaab": 3, "aabaabaab": 3,
		// The last part is a piece alone.
		"aba": 2, "ababa": 2, "abcab": 3, "abcabca": 3, "abaab": 3, "aabaabaa": 3, "abcda": 4,
		// None is less than the length.
		"abc": 3, "aab": 3, "abb": 3, "aaab": 4, "abbb": 4, "ababb": 5, "abac": 4,
		"\x00\x7f\x80\xff\x00": 4, "éé": 2, "éèé": 4, "\xff\xfe\xff": 2,
	} {
		checkPeriod(t, s, want)
	}
	for _, n := range []int{1, 2, 3, 64, 500} {
		checkPeriod(t, strings.Repeat("a", n), 1)
		checkPeriod(t, strings.Repeat("a", n)+"b", n+1)
		checkPeriod(t, "b"+strings.Repeat("a", n), n+1)
		checkPeriod(t, strings.Repeat("a", n)+"b"+strings.Repeat("a", n), n+1)
	}
	for n := range 257 {
		checkPeriod(t, rising()[:n], n)
	}
	checkPeriod(t, rising()+rising(), 256)
	checkPeriod(t, rising()+rising()+rising()[:7], 256)
}

func TestPeriodOfTextsThatAreWrittenAgain(t *testing.T) {
	for _, s := range texts() {
		for again := 2; again <= 3; again++ {
			whole := strings.Repeat(s, again)
			checkPeriod(t, whole, periodOf(whole))
			for piece := range min(len(s), 20) {
				checkPeriod(t, whole+s[:piece], periodOf(whole+s[:piece]))
			}
			if got := Period(whole); got > len(s) {
				t.Errorf("P9.2: Period of %q, %d times, is %d", s, again, got)
			}
		}
	}
}

func TestPeriodOfAllShortTexts(t *testing.T) {
	for _, s := range slices.Concat(upTo(12, "ab"), upTo(7, "abc"), upTo(5, "\x00\x7f\x80\xff"), texts()) {
		checkPeriod(t, s, periodOf(s))
	}
}

func TestPeriodsAreRowsThatGoToTheEnd(t *testing.T) {
	for _, s := range slices.Concat(upTo(11, "ab"), upTo(7, "abc"), texts()) {
		rows := Rows(s)
		least := 0
		for n := len(s); n >= 1; n-- {
			ends := n == len(s) || n+rows[n] == len(s)
			if ends != moves(s, n) {
				t.Errorf("P9.3: %q has %d as a period: %v; its row there goes to its end: %v", s, n, moves(s, n), ends)
			}
			if ends {
				least = n
			}
		}
		if got := Period(s); got != least {
			t.Errorf("P9.3: Period of %q is %d, by its rows %d", s, got, least)
		}
	}
}

func TestFindingByRowsIsFindingElementByElement(t *testing.T) {
	patterns := slices.Concat(upTo(4, "ab"), upTo(3, "\x00\x80\xff"), []string{"aaaaaaa", "abababa", "aabaaba", "éé", strings.Repeat("a", 63), strings.Repeat("a", 64), strings.Repeat("ab", 32)})
	for _, text := range texts() {
		if len(text) > 0 && len(text) <= api.MaxPattern {
			patterns = append(patterns, text, text[len(text)/2:], text[:(len(text)+1)/2])
		}
	}
	for _, p := range patterns {
		l := leaf.Text(p, 0)
		for _, text := range append(texts(), upTo(6, "ab")...) {
			want := naive.Find(l, text)
			if got := Find(p, text); !slices.Equal(got, want) {
				t.Errorf("P9.3: Find of %q in %q tells %v, element by element %v", p, text, got, want)
			}
			if got, is := Leaf(l, text); !slices.Equal(got, want) || is != (p != "") {
				t.Errorf("P9.3: Leaf of %q in %q tells %v, %v, element by element %v", p, text, got, is, want)
			}
		}
	}
}

// To go through these texts anew for each of their places would take hours.
func TestLongTexts(t *testing.T) {
	const n = 1 << 20
	same := strings.Repeat("a", n)
	for i, got := range Rows(same) {
		if got != n-i {
			t.Fatalf("P9.1: the row of %d times a at %d is %d", n, i, got)
		}
	}
	for i, got := range Rows(same + "b" + same) {
		want := n - i
		if i == 0 || i > n {
			want = 2*n + 1 - i
		}
		if got != want {
			t.Fatalf("P9.1: the row of %d times a, b and the same again at %d is %d, not %d", n, i, got, want)
		}
	}
	half := same[:n/2]
	places := Find(half, same)
	for i, got := range places {
		if got != i {
			t.Fatalf("P9.2: place %d of Find in a long text is %d", i, got)
		}
	}
	if len(places) != n/2+1 {
		t.Errorf("P9.2: Find in a long text tells %d places", len(places))
	}
	checkFind(t, half+"b", same)
	checkFind(t, half+"b", same+"b", n/2)
	if got := Period(same); got != 1 {
		t.Errorf("P9.2: Period of %d times a is %d", n, got)
	}
	if got := Period(same + "b"); got != n+1 {
		t.Errorf("P9.2: Period of %d times a, and b, is %d", n, got)
	}
}

func TestWhatIsGivenStays(t *testing.T) {
	for _, l := range []api.Leaf{leaf.Text("ab", 0), leaf.Text("aa", 1), row(0, a, full), row(0, ab), row(0, none), row(-1, a), {}} {
		// What lies behind the elements in their memory is not the leaf's.
		memory := append(slices.Clone(l.P), ends, ab, ends)
		given := api.Leaf{P: memory[:len(l.P)], K: l.K}
		before := slices.Clone(memory)
		for _, text := range texts() {
			Leaf(given, text)
		}
		if !slices.Equal(memory, before) || given.K != l.K || len(given.P) != len(l.P) {
			t.Errorf("R5: Leaf changes %v", before)
		}
	}
}

// spoil writes into a list, and behind it.
func spoil(l []int) {
	for i := range l {
		l[i] = -7
	}
	_ = append(l, -7)
}

func TestWhatIsToldIsTheCallersOwn(t *testing.T) {
	p, text := "aba", "ababababcaba"
	l := leaf.Text(p, 0)
	rows, places := rowsOf(text), placesOf(p, text)
	gotRows, gotPlaces := Rows(text), Find(p, text)
	gotLeaf, _ := Leaf(l, text)
	otherRows, otherPlaces := Rows(text), Find(p, text)
	otherLeaf, _ := Leaf(l, text)
	spoil(gotRows)
	spoil(gotPlaces)
	spoil(gotLeaf)
	if !slices.Equal(otherRows, rows) || !slices.Equal(Rows(text), rows) {
		t.Error("R6: to write into Rows changes others")
	}
	if !slices.Equal(otherPlaces, places) || !slices.Equal(Find(p, text), places) {
		t.Error("R6: to write into what Find tells changes others")
	}
	// Nor is what was told a view of the leaf that was given.
	l.P[0], l.P[1], l.P[2] = ends, ends, ends
	if !slices.Equal(otherLeaf, places) {
		t.Error("R6: to write into the leaf, or what another call told of it, changes what was told")
	}
	checkLeaf(t, leaf.Text(p, 0), text, true, places...)
	checkPeriod(t, text, periodOf(text))
}

func TestTheSameIsToldAlways(t *testing.T) {
	text, p := written(3, 300, "ab"), "abba"
	rows, places, period := rowsOf(text), placesOf(p, text), periodOf(text)
	for range 50 {
		// Calls between that tell something else leave no trace.
		Rows("bbbbab")
		Find("b", "abb")
		Leaf(leaf.Text("ba", 0), "baba")
		Period("abab")
		checkRows(t, text, rows...)
		checkFind(t, p, text, places...)
		checkLeaf(t, leaf.Text(p, 0), text, true, places...)
		checkPeriod(t, text, period)
	}
	// The same bytes in other memory are the same.
	checkRows(t, strings.Clone(text), rows...)
	checkFind(t, (text + p)[len(text):], strings.Clone(text), places...)
	checkFind(t, text[5:25], text, placesOf(text[5:25], text)...)
}

func TestExamples(t *testing.T) {
	checkRows(t, "aabaa", 5, 1, 0, 2, 1)
	checkFind(t, "aa", "aaab", 0, 1)
	checkPeriod(t, "abab", 2)
}
