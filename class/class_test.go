package class

import (
	"bytes"
	"slices"
	"testing"

	"beagle/api"
)

// set tells of each byte whether it is in a class: what the calls are held against.
type set [256]bool

// edges are the bytes at which the words of a class begin and end.
var edges = []int{0, 63, 64, 127, 128, 191, 192, 255}

// classOf lays a set into words, as api says of a class.
func classOf(s set) api.Class {
	var c api.Class
	for b, in := range s {
		if in {
			c[b/64] += 1 << (b % 64)
		}
	}
	return c
}

// setOf reads the words of a class, as api says.
func setOf(c api.Class) set {
	var s set
	for b := range s {
		s[b] = c[b/64]&(1<<(b%64)) != 0
	}
	return s
}

// bytesOf are the bytes of a set, rising.
func bytesOf(s set) []byte {
	var l []byte
	for b, in := range s {
		if in {
			l = append(l, byte(b))
		}
	}
	return l
}

func setOfBytes(l ...byte) set {
	var s set
	for _, b := range l {
		s[b] = true
	}
	return s
}

func setOfRange(from, to int) set {
	var s set
	for b := range s {
		s[b] = from <= b && b <= to
	}
	return s
}

func notOf(s set) set {
	for b := range s {
		s[b] = !s[b]
	}
	return s
}

func orOf(a, b set) set {
	for i := range a {
		a[i] = a[i] || b[i]
	}
	return a
}

// every are the bytes that are at plus a multiple of step.
func every(step, at int) set {
	var s set
	for b := range s {
		s[b] = b%step == at
	}
	return s
}

// mixed is a set that follows no rule, always the same one for one seed; of some 256 bytes times part / 8.
func mixed(seed, part int) set {
	x := uint64(88172645463325252) + uint64(seed)*2654435761
	var s set
	for b := range s {
		x ^= x << 13
		x ^= x >> 7
		x ^= x << 17
		s[b] = int(x>>61) < part
	}
	return s
}

// samples are sets at the edges and ordinary ones; none and all are the first two.
func samples() []set {
	all := []set{{}, notOf(set{})}
	for b := range 256 {
		all = append(all, setOfBytes(byte(b)))
	}
	for _, a := range edges {
		all = append(all, notOf(setOfBytes(byte(a))))
		for _, b := range edges {
			if a < b {
				all = append(all, setOfBytes(byte(a), byte(b)), setOfRange(a, b), notOf(setOfRange(a, b)))
			}
		}
		for _, b := range []int{a - 2, a - 1, a + 1, a + 2} {
			if 0 <= b && b <= 255 {
				all = append(all, setOfRange(min(a, b), max(a, b)), setOfBytes(byte(a), byte(b)))
			}
		}
	}
	for _, step := range []int{2, 3, 5, 64} {
		for at := range step {
			all = append(all, every(step, at))
		}
	}
	for seed := range 24 {
		all = append(all, mixed(seed, 1+seed%7))
	}
	return all
}

// check holds a class against the bytes that it must have.
func check(t *testing.T, promise, call string, got api.Class, want set) {
	t.Helper()
	if got != classOf(want) {
		t.Errorf("%s: %s has the bytes %v, not %v", promise, call, bytesOf(setOf(got)), bytesOf(want))
	}
}

func TestOf(t *testing.T) {
	check(t, "P6.1", "Of of the empty text", Of(""), set{})
	for b := range 256 {
		one := []byte{byte(b)}
		check(t, "P6.1", "Of of one byte", Of(string(one)), setOfBytes(byte(b)))
		check(t, "P6.1", "Of of a byte many times", Of(string(bytes.Repeat(one, 300))), setOfBytes(byte(b)))
	}
	check(t, "P6.1", "Of of the first and the last byte", Of("\x00\xff"), setOfBytes(0, 255))
	for _, s := range samples() {
		l := bytesOf(s)
		check(t, "P6.1", "Of, rising", Of(string(l)), s)
		slices.Reverse(l)
		check(t, "P6.1", "Of, falling", Of(string(l)), s)
		check(t, "P6.1", "Of, each twice", Of(string(l)+string(l)), s)
	}
}

func TestOfTakesBytesNotRunes(t *testing.T) {
	for _, text := range []string{"\x80", "\xc3", "\xfe\xff", "a\x80b", "é", "\xed\xa0\x80", "日本", "\xf0\x9f", "x😀y"} {
		check(t, "P6.1", "Of", Of(text), setOfBytes([]byte(text)...))
	}
	// U+FFFD would stand for each of these.
	if Of("\x80") == Of("\x81") || Has(Of("\x80"), 0xfd) {
		t.Error("P6.1: Of takes a byte above 127 for another one")
	}
}

func TestRange(t *testing.T) {
	for from := range 256 {
		for to := range 256 {
			got := Range(byte(from), byte(to))
			for b := range 256 {
				if Has(got, byte(b)) != (from <= b && b <= to) {
					t.Fatalf("P6.1: Range(%d, %d): byte %d in it is %v", from, to, b, Has(got, byte(b)))
				}
			}
		}
	}
}

func TestRangeAtTheEdges(t *testing.T) {
	for _, x := range [][2]int{{0, 0}, {255, 255}, {0, 255}, {255, 0}, {1, 0}, {255, 254}, {64, 63}, {128, 127}, {192, 191}, {0, 63}, {0, 64}, {63, 64}, {64, 127}, {63, 128}, {127, 128}, {128, 191}, {191, 192}, {192, 255}, {254, 255}, {0, 254}, {1, 255}} {
		check(t, "P6.1", "Range", Range(byte(x[0]), byte(x[1])), setOfRange(x[0], x[1]))
	}
	for b := range 256 {
		check(t, "P6.1", "Range of one byte", Range(byte(b), byte(b)), setOfBytes(byte(b)))
		if b > 0 {
			check(t, "P6.1", "Range to one below", Range(byte(b), byte(b-1)), set{})
		}
	}
}

func TestFull(t *testing.T) {
	check(t, "P6.1", "Full", Full(), notOf(set{}))
	if Full() != Range(0, 255) || Size(Full()) != 256 {
		t.Error("P6.1: Full is not all bytes")
	}
	for b := range 256 {
		if !Has(Full(), byte(b)) {
			t.Errorf("P6.1: Full lacks byte %d", b)
		}
	}
}

func TestNot(t *testing.T) {
	check(t, "P6.1", "Not of none", Not(api.Class{}), notOf(set{}))
	check(t, "P6.1", "Not of all", Not(Full()), set{})
	for _, s := range samples() {
		c := classOf(s)
		check(t, "P6.1", "Not", Not(c), notOf(s))
		check(t, "P6.1", "Not, twice", Not(Not(c)), s)
	}
}

func TestOr(t *testing.T) {
	all := samples()
	for _, s := range all {
		c := classOf(s)
		check(t, "P6.1", "Or with itself", Or(c, c), s)
		check(t, "P6.1", "Or with none", Or(c, api.Class{}), s)
		check(t, "P6.1", "none Or it", Or(api.Class{}, c), s)
		check(t, "P6.1", "Or with all", Or(c, Full()), notOf(set{}))
		check(t, "P6.1", "all Or it", Or(Full(), c), notOf(set{}))
		check(t, "P6.1", "Or with the others", Or(c, Not(c)), notOf(set{}))
		check(t, "P6.1", "the others Or it", Or(Not(c), c), notOf(set{}))
	}
	for _, a := range all {
		for _, b := range all {
			check(t, "P6.1", "Or", Or(classOf(a), classOf(b)), orOf(a, b))
		}
	}
}

func TestHas(t *testing.T) {
	for _, s := range samples() {
		c := classOf(s)
		for b := range 256 {
			if Has(c, byte(b)) != s[b] {
				t.Errorf("P6.2: Has of %v, %d, is %v", bytesOf(s), b, Has(c, byte(b)))
			}
		}
	}
	for one := range 256 {
		c := Of(string([]byte{byte(one)}))
		for b := range 256 {
			if Has(c, byte(b)) != (b == one) {
				t.Errorf("P6.2: Has of byte %d alone, %d, is %v", one, b, Has(c, byte(b)))
			}
		}
	}
}

func TestSize(t *testing.T) {
	// Bytes come one by one in an order that goes to and fro over all words, and in the rising one.
	for _, step := range []int{1, 167} {
		var s set
		for size := range 256 {
			if got := Size(classOf(s)); got != size {
				t.Errorf("P6.2: Size of %d bytes is %d", size, got)
			}
			s[(size*step+13)%256] = true
		}
		if got := Size(classOf(s)); got != 256 {
			t.Errorf("P6.2: Size of all bytes is %d", got)
		}
	}
	for _, s := range samples() {
		if got := Size(classOf(s)); got != len(bytesOf(s)) {
			t.Errorf("P6.2: Size of %v is %d", bytesOf(s), got)
		}
	}
}

func TestSingle(t *testing.T) {
	for b := range 256 {
		if got, ok := Single(classOf(setOfBytes(byte(b)))); got != byte(b) || !ok {
			t.Errorf("P6.2: Single of byte %d alone is %d, %v", b, got, ok)
		}
	}
	for _, s := range samples() {
		l := bytesOf(s)
		if got, ok := Single(classOf(s)); len(l) != 1 && (got != 0 || ok) {
			t.Errorf("P6.2, R1: Single of %v is %d, %v", l, got, ok)
		}
	}
	for a := range 256 {
		for b := range a {
			if got, ok := Single(classOf(setOfBytes(byte(a), byte(b)))); got != 0 || ok {
				t.Errorf("P6.2, R1: Single of bytes %d and %d is %d, %v", b, a, got, ok)
			}
		}
	}
}

// runsOf tells the runs by the definition: all bytes from the first to the last are in s, that ahead and that behind are not.
func runsOf(s set) [][2]byte {
	in := func(b int) bool { return 0 <= b && b < 256 && s[b] }
	var runs [][2]byte
	for first := range 256 {
		for last := first; in(first) && !in(first-1) && in(last); last++ {
			if !in(last + 1) {
				runs = append(runs, [2]byte{byte(first), byte(last)})
			}
		}
	}
	return runs
}

func checkRuns(t *testing.T, s set, want [][2]byte) {
	t.Helper()
	if got := Runs(classOf(s)); !slices.Equal(got, want) {
		t.Errorf("P6.2: Runs of %v are %v, not %v", bytesOf(s), got, want)
	}
}

func TestRuns(t *testing.T) {
	for _, s := range samples() {
		checkRuns(t, s, runsOf(s))
	}
	// Each run there can be, alone, and with what is left on both sides.
	for first := range 256 {
		for last := first; last < 256; last++ {
			checkRuns(t, setOfRange(first, last), [][2]byte{{byte(first), byte(last)}})
			others := notOf(setOfRange(first, last))
			checkRuns(t, others, runsOf(others))
		}
	}
}

func TestRunsAtTheEdges(t *testing.T) {
	checkRuns(t, set{}, nil)
	checkRuns(t, notOf(set{}), [][2]byte{{0, 255}})
	checkRuns(t, setOfBytes(0), [][2]byte{{0, 0}})
	checkRuns(t, setOfBytes(255), [][2]byte{{255, 255}})
	checkRuns(t, setOfBytes(0, 255), [][2]byte{{0, 0}, {255, 255}})
	checkRuns(t, setOfBytes(0, 1, 254, 255), [][2]byte{{0, 1}, {254, 255}})
	checkRuns(t, setOfBytes(253, 255), [][2]byte{{253, 253}, {255, 255}})
	checkRuns(t, notOf(setOfBytes(0, 255)), [][2]byte{{1, 254}})
	checkRuns(t, notOf(setOfBytes(64)), [][2]byte{{0, 63}, {65, 255}})
	for _, border := range []int{64, 128, 192} {
		low, high := byte(border-1), byte(border)
		checkRuns(t, setOfBytes(low), [][2]byte{{low, low}})
		checkRuns(t, setOfBytes(high), [][2]byte{{high, high}})
		checkRuns(t, setOfBytes(low, high), [][2]byte{{low, high}})
		checkRuns(t, setOfBytes(low-1, high), [][2]byte{{low - 1, low - 1}, {high, high}})
		checkRuns(t, setOfBytes(low, high+1), [][2]byte{{low, low}, {high + 1, high + 1}})
		checkRuns(t, setOfRange(border-5, border+5), [][2]byte{{low - 4, high + 5}})
	}
}

func TestRunsOfEverySecondByte(t *testing.T) {
	for at := range 2 {
		var want [][2]byte
		for b := at; b < 256; b += 2 {
			want = append(want, [2]byte{byte(b), byte(b)})
		}
		checkRuns(t, every(2, at), want)
	}
}

func TestRangesOfRunsAreTheClass(t *testing.T) {
	for _, s := range samples() {
		c, joined := classOf(s), api.Class{}
		for _, run := range Runs(c) {
			joined = Or(joined, Range(run[0], run[1]))
		}
		check(t, "P6.3", "the Ranges of its Runs", joined, s)
	}
}

// ways are classes that must have just the bytes of s, each made in another way.
func ways(s set) []api.Class {
	l := bytesOf(s)
	of, one, others := Of(string(l)), api.Class{}, Full()
	for _, b := range l {
		one = Or(Range(b, b), one)
		others = Not(Or(Not(others), Range(b, b)))
	}
	slices.Reverse(l)
	return []api.Class{of, Of(string(l) + string(l)), one, Not(Not(of)), Not(others), Or(of, one)}
}

func TestClassesAreTheSameJustIfTheirBytesAre(t *testing.T) {
	all := samples()
	for _, s := range all {
		for i, c := range ways(s) {
			if c != classOf(s) {
				t.Errorf("P6.3: the class of %v, made in way %d, is another one", bytesOf(s), i)
			}
		}
	}
	for _, a := range all {
		for _, b := range all {
			if (Of(string(bytesOf(a))) == Of(string(bytesOf(b)))) != (a == b) {
				t.Errorf("P6.3: the classes of %v and %v are the same, or not, where their bytes say otherwise", bytesOf(a), bytesOf(b))
			}
		}
	}
}

func TestWhatIsToldIsTheCallersOwn(t *testing.T) {
	for _, s := range samples() {
		c := classOf(s)
		first, second := Runs(c), Runs(c)
		for i := range first {
			first[i] = [2]byte{7, 3}
		}
		first = append(first, [2]byte{1, 1})
		if !slices.Equal(second, runsOf(s)) || !slices.Equal(Runs(c), second) || c != classOf(s) {
			t.Errorf("R5, R6: to write into %d runs of %v changes others", len(first), bytesOf(s))
		}
	}
	full := Full()
	full[2] = 0
	check(t, "R6", "Full, written into", Full(), notOf(set{}))
	a, b := Of("a"), Of("b")
	told := Or(a, b)
	told[0] = 5
	check(t, "R5, R6", "the first class handed in", a, setOfBytes('a'))
	check(t, "R5, R6", "the second class handed in", b, setOfBytes('b'))
	_ = Not(a)
	check(t, "R5, R6", "what Not was given", a, setOfBytes('a'))
}

func TestExamples(t *testing.T) {
	if got := Size(Range('a', 'c')); got != 3 {
		t.Errorf("P6.2: Size(Range(a, c)) is %d", got)
	}
	if got, ok := Single(Of("x")); got != 'x' || !ok {
		t.Errorf("P6.2: Single(Of(x)) is %d, %v", got, ok)
	}
	if got := Runs(Of("abcx")); !slices.Equal(got, [][2]byte{{'a', 'c'}, {'x', 'x'}}) {
		t.Errorf("P6.2: Runs(Of(abcx)) are %v", got)
	}
}
