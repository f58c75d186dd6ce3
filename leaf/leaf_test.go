package leaf

import (
	"math"
	"slices"
	"strings"
	"testing"

	"beagle/api"
	"beagle/class"
)

// The elements of the samples: of one byte, of more, of none, of all.
var (
	a     = api.Class{0, 1 << ('a' - 64), 0, 0}
	b     = api.Class{0, 1 << ('b' - 64), 0, 0}
	c     = api.Class{0, 1 << ('c' - 64), 0, 0}
	ab    = api.Class{0, 1<<('a'-64) | 1<<('b'-64), 0, 0}
	first = api.Class{1, 0, 0, 0}
	last  = api.Class{0, 0, 0, 1 << 63}
	ends  = api.Class{1, 0, 0, 1 << 63}
	most  = api.Class{^uint64(0), ^uint64(0), ^uint64(0), ^uint64(0) >> 1}
	full  = api.Class{^uint64(0), ^uint64(0), ^uint64(0), ^uint64(0)}
	none  = api.Class{}
)

// misses are numbers that K may be, or may not.
var misses = []int{math.MinInt, -65, -1, 0, 1, 2, 63, 64, 65, 1000, math.MaxInt}

func row(elements ...api.Class) api.Leaf { return api.Leaf{P: elements} }

func times(n int, element api.Class) api.Leaf {
	return api.Leaf{P: slices.Repeat([]api.Class{element}, n)}
}

// with is l with another element at one place.
func with(l api.Leaf, at int, element api.Class) api.Leaf {
	l.P = slices.Clone(l.P)
	l.P[at] = element
	return l
}

// mixed is a leaf of n elements out of some, always the same one for one seed.
func mixed(seed, n int, some ...api.Class) api.Leaf {
	x := uint64(88172645463325252) + uint64(seed)*2654435761
	l := api.Leaf{K: seed % 5}
	for range n {
		x ^= x << 13
		x ^= x >> 7
		x ^= x << 17
		l.P = append(l.P, some[int(x>>33)%len(some)])
	}
	return l
}

// each are leaves that have all 256 bytes, one an element; rising, and in an order that goes to and fro.
func each() []api.Leaf {
	var leaves []api.Leaf
	for _, step := range []int{1, 167} {
		var l api.Leaf
		for i := range 256 {
			l.P = append(l.P, alone(byte(i*step+13)))
		}
		leaves = append(leaves, l)
	}
	return leaves
}

// samples are leaves at the edges and ordinary ones, right and not.
func samples() []api.Leaf {
	all := []api.Leaf{
		{}, {P: []api.Class{}}, {K: -1}, {K: 3},
		row(a), row(full), row(none), row(ab), row(most),
		row(a, full, b, a), row(full, a), row(a, full), row(full, full, full),
		row(ab, a, ab), row(a, none), row(first, last, ends), row(last, first, last, first),
		times(64, a), times(64, full), times(65, none), times(65, a), times(300, ab),
	}
	all = append(all, each()...)
	for seed := range 24 {
		all = append(all,
			mixed(seed, 1+seed, a, b, c, full),
			mixed(seed, 64, a, b, ab, first, last, ends, most, full),
			mixed(seed, 40+seed, a, none, full, ab),
			mixed(seed, 3, a, b))
	}
	return all
}

// bytesOf reads the bytes of a class, rising, as api says of its words.
func bytesOf(element api.Class) []byte {
	var l []byte
	for i := range 256 {
		if element[i/64]&(1<<(i%64)) != 0 {
			l = append(l, byte(i))
		}
	}
	return l
}

// alone is the class of one byte, laid into words, as api says.
func alone(x byte) api.Class {
	var element api.Class
	element[x/64] = 1 << (x % 64)
	return element
}

// kindsOf tells by the definition: a bound element that no earlier one is.
func kindsOf(l api.Leaf) []api.Class {
	var kinds []api.Class
	for i, element := range l.P {
		if len(bytesOf(element)) < 256 && slices.Index(l.P, element) == i {
			kinds = append(kinds, element)
		}
	}
	return kinds
}

func TestRightByHowManyElements(t *testing.T) {
	for _, element := range []api.Class{a, ab, full, first, last, most} {
		for n := range 200 {
			if got := Right(times(n, element)); got != (1 <= n && n <= 64) {
				t.Errorf("P7.1: Right of %d elements is %v", n, got)
			}
		}
	}
	if Right(api.Leaf{}) || Right(api.Leaf{P: []api.Class{}}) || Right(api.Leaf{K: 1}) {
		t.Error("P7.1: a leaf without elements is Right")
	}
	if !Right(row(a)) || !Right(times(api.MaxPattern, a)) || Right(times(api.MaxPattern+1, a)) {
		t.Error("P7.1: Right at one, at MaxPattern, or at one more element is wrong")
	}
}

func TestRightByEmptyElements(t *testing.T) {
	for _, n := range []int{1, 2, 3, 63, 64} {
		for _, element := range []api.Class{a, full, ends} {
			whole := times(n, element)
			if !Right(whole) {
				t.Errorf("P7.1: %d elements that are not empty are not Right", n)
			}
			for at := range n {
				if Right(with(whole, at, none)) {
					t.Errorf("P7.1: %d elements with an empty one at %d are Right", n, at)
				}
			}
		}
		if Right(times(n, none)) {
			t.Errorf("P7.1: %d empty elements are Right", n)
		}
	}
	// A class that has bytes in but one of its words is not empty.
	for x := range 256 {
		if !Right(row(alone(byte(x)))) {
			t.Errorf("P7.1: an element of byte %d alone is not Right", x)
		}
	}
}

func TestRightByK(t *testing.T) {
	for _, n := range []int{1, 2, 64} {
		for _, k := range misses {
			l := times(n, a)
			l.K = k
			if got := Right(l); got != (0 <= k && k <= 64) {
				t.Errorf("P7.1: Right of %d elements with K %d is %v", n, k, got)
			}
		}
		for k := range 130 {
			if got := Right(api.Leaf{P: times(n, ab).P, K: k - 32}); got != (32 <= k && k <= 96) {
				t.Errorf("P7.1: Right of %d elements with K %d is %v", n, k-32, got)
			}
		}
	}
	if Right(api.Leaf{P: []api.Class{a}, K: -1}) || !Right(api.Leaf{P: []api.Class{a}}) || !Right(api.Leaf{P: []api.Class{a}, K: api.MaxPattern}) || Right(api.Leaf{P: []api.Class{a}, K: api.MaxPattern + 1}) {
		t.Error("P7.1: Right at K -1, 0, MaxPattern, or one more is wrong")
	}
}

// checkText holds a Text against its bytes.
func checkText(t *testing.T, s string, k int) {
	t.Helper()
	l := Text(s, k)
	if l.K != k {
		t.Errorf("P7.1: Text of %q with K %d has K %d", s, k, l.K)
	}
	if len(l.P) != len(s) {
		t.Fatalf("P7.1: Text of %q has %d elements", s, len(l.P))
	}
	for i := range l.P {
		if l.P[i] != alone(s[i]) {
			t.Errorf("P7.1: element %d of Text of %q has the bytes %v", i, s, bytesOf(l.P[i]))
		}
	}
	if letters, is := Letters(l); letters != s || !is {
		t.Errorf("P7.3: Letters of Text of %q are %q, %v", s, letters, is)
	}
}

// texts are at the edges and ordinary; bytes above 127 that are no runes are among them.
func texts() []string {
	all := []string{
		"", "a", "ab", "abca", "aaaa", "\x00", "\x00\x00", "\xff", "\x00\xff",
		"\x80", "\x80\x80\x81", "\xc3", "\xfe\xff", "a\x80b", "\xed\xa0\x80", "\xf0\x9f",
		"é", "日本", "x😀y", "\ufffd", " \t\n\"\\?[]-^",
		strings.Repeat("a", 64), strings.Repeat("ab", 33), strings.Repeat("\xe9", 500), strings.Repeat("x\x80", 5000),
	}
	rising := make([]byte, 256)
	for i := range rising {
		rising[i] = byte(i)
		all = append(all, string([]byte{byte(i)}))
	}
	all = append(all, string(rising))
	slices.Reverse(rising)
	return append(all, string(rising), string(rising)+string(rising))
}

func TestText(t *testing.T) {
	for _, s := range texts() {
		checkText(t, s, 0)
	}
	for _, s := range []string{"", "a", "abca", "\x80\xff"} {
		for _, k := range misses {
			checkText(t, s, k)
		}
	}
	if Same(Text("\x80", 0), Text("\x81", 0)) || Same(Text("\x80", 0), Text("\ufffd", 0)) {
		t.Error("P7.1: Text takes bytes that are no runes for others")
	}
}

func TestTextIsRight(t *testing.T) {
	for n := range 70 {
		if got := Right(Text(strings.Repeat("\x00", n), 0)); got != (1 <= n && n <= 64) {
			t.Errorf("P7.1: Right of a Text of %d bytes is %v", n, got)
		}
	}
}

func TestPlain(t *testing.T) {
	for _, x := range []struct {
		l    api.Leaf
		want bool
	}{
		{api.Leaf{}, true},
		{api.Leaf{P: []api.Class{}, K: 7}, true},
		{row(full), true},
		{times(5, full), true},
		{row(a), true},
		{row(a, b, c, a), true},
		{row(first, last), true},
		{row(a, full, b, a), true},
		{row(full, a, full), true},
		{row(ab), false},
		{row(ends), false},
		{row(most), false},
		{row(none), false},
		{row(a, none, b), false},
		{times(300, a), true},
	} {
		if got := Plain(x.l); got != x.want {
			t.Errorf("P7.2: Plain of %v is %v", x.l.P, got)
		}
	}
	for _, l := range each() {
		if !Plain(l) {
			t.Error("P7.2: all single bytes are not Plain")
		}
	}
}

func TestPlainWithOneOther(t *testing.T) {
	for _, other := range []api.Class{ab, ends, most, none, {3, 0, 0, 0}, {0, 0, 1, 1}} {
		for _, l := range []api.Leaf{times(64, a), times(64, full), mixed(3, 64, a, b, full), row(a, full, b)} {
			for at := range l.P {
				if Plain(with(l, at, other)) {
					t.Errorf("P7.2: %d elements with one of the bytes %v at %d are Plain", len(l.P), bytesOf(other), at)
				}
			}
		}
	}
	for x := range 256 {
		for y := range x {
			two := alone(byte(x))
			two[y/64] |= 1 << (y % 64)
			if Plain(row(a, two)) {
				t.Fatalf("P7.2: an element of the bytes %d and %d is Plain", y, x)
			}
		}
		others := full
		others[x/64] &^= 1 << (x % 64)
		if Plain(row(a, others)) {
			t.Errorf("P7.2: an element of all bytes but %d is Plain", x)
		}
	}
}

func checkLetters(t *testing.T, l api.Leaf, want string, wantIs bool) {
	t.Helper()
	if got, is := Letters(l); got != want || is != wantIs {
		t.Errorf("P7.2: Letters of %v are %q, %v, not %q, %v", l.P, got, is, want, wantIs)
	}
}

func TestLetters(t *testing.T) {
	checkLetters(t, api.Leaf{}, "", true)
	checkLetters(t, api.Leaf{P: []api.Class{}, K: -4}, "", true)
	checkLetters(t, row(a), "a", true)
	checkLetters(t, row(a, b, a), "aba", true)
	checkLetters(t, row(last, first), "\xff\x00", true)
	checkLetters(t, times(300, b), strings.Repeat("b", 300), true)
	for x := range 256 {
		checkLetters(t, row(alone(byte(x)), a), string([]byte{byte(x), 'a'}), true)
	}
	for _, other := range []api.Class{full, ab, ends, most, none} {
		checkLetters(t, row(other), "", false)
		checkLetters(t, row(other, a, b), "", false)
		checkLetters(t, row(a, other, b), "", false)
		checkLetters(t, row(a, b, other), "", false)
		long := times(64, a)
		for at := range long.P {
			checkLetters(t, with(long, at, other), "", false)
		}
	}
}

func TestLettersHangOnElementsAlone(t *testing.T) {
	for _, k := range misses {
		if got, is := Letters(api.Leaf{P: []api.Class{a, b}, K: k}); got != "ab" || !is {
			t.Errorf("P7.2: Letters with K %d are %q, %v", k, got, is)
		}
	}
}

func TestBound(t *testing.T) {
	for _, n := range []int{0, 1, 2, 63, 64, 65, 300} {
		if got := Bound(times(n, full)); got != 0 {
			t.Errorf("P7.2: Bound of %d free elements is %d", n, got)
		}
		for _, element := range []api.Class{a, ab, ends, most, none, first, last} {
			if got := Bound(times(n, element)); got != n {
				t.Errorf("P7.2: Bound of %d bound elements is %d", n, got)
			}
		}
	}
	for n := range 65 {
		l := times(64, full)
		for i := range n {
			l.P[i*37%64] = []api.Class{a, ab, most}[i%3]
		}
		if got := Bound(l); got != n {
			t.Errorf("P7.2: Bound of %d elements of 64 is %d", n, got)
		}
	}
	if Bound(api.Leaf{}) != 0 || Bound(row(a, full, b, a)) != 3 || Bound(row(full, a, full)) != 1 {
		t.Error("P7.2: Bound of none, or some, is wrong")
	}
}

func TestKinds(t *testing.T) {
	for _, x := range []struct {
		l    api.Leaf
		want []api.Class
	}{
		{api.Leaf{}, nil},
		{api.Leaf{P: []api.Class{}, K: 2}, nil},
		{row(full), nil},
		{times(64, full), nil},
		{row(a), []api.Class{a}},
		{times(64, a), []api.Class{a}},
		{times(300, ab), []api.Class{ab}},
		{row(a, b, c), []api.Class{a, b, c}},
		{row(c, b, a), []api.Class{c, b, a}},
		{row(b, a, b, c, a, c, b), []api.Class{b, a, c}},
		{row(full, b, full, a, full, b), []api.Class{b, a}},
		{row(ab, a, b, ab, most, a, full, most), []api.Class{ab, a, b, most}},
		{row(last, ends, first, last), []api.Class{last, ends, first}},
		{row(a, none, a, none), []api.Class{a, none}},
	} {
		if got := Kinds(x.l); !slices.Equal(got, x.want) {
			t.Errorf("P7.2: Kinds of %v are %v, not %v", x.l.P, got, x.want)
		}
	}
	for _, l := range samples() {
		if got := Kinds(l); !slices.Equal(got, kindsOf(l)) {
			t.Errorf("P7.2: Kinds of %v are %v", l.P, got)
		}
	}
}

func TestKindsOfAllBytes(t *testing.T) {
	for _, l := range each() {
		once := slices.Clone(l.P)
		twice := api.Leaf{P: append(slices.Clone(once), once...)}
		if !slices.Equal(Kinds(l), once) || !slices.Equal(Kinds(twice), once) {
			t.Error("P7.2: Kinds of all single bytes are not these, in their order, each once")
		}
	}
}

func checkWhere(t *testing.T, l api.Leaf, element api.Class, want ...int) {
	t.Helper()
	if got := Where(l, element); !slices.Equal(got, want) {
		t.Errorf("P7.2: Where of %v in %v are %v, not %v", element, l.P, got, want)
	}
}

func TestWhere(t *testing.T) {
	for _, element := range []api.Class{a, ab, full, none, ends} {
		checkWhere(t, api.Leaf{}, element)
		checkWhere(t, api.Leaf{P: []api.Class{}, K: 1}, element)
	}
	l := row(a, full, b, a, ab, full, none)
	checkWhere(t, l, a, 0, 3)
	checkWhere(t, l, b, 2)
	checkWhere(t, l, ab, 4)
	checkWhere(t, l, full, 1, 5)
	checkWhere(t, l, class.Full(), 1, 5)
	checkWhere(t, l, none, 6)
	checkWhere(t, l, c)
	checkWhere(t, l, most)
	// A class stands where it is the element, not where it only shares bytes with it.
	checkWhere(t, row(ab, most, full), a)
	checkWhere(t, row(a, b), ab)
	for _, n := range []int{1, 2, 64, 65, 300} {
		var all []int
		for i := range n {
			all = append(all, i)
			checkWhere(t, with(times(n, a), i, ab), ab, i)
		}
		checkWhere(t, times(n, a), a, all...)
		checkWhere(t, times(n, full), full, all...)
		checkWhere(t, times(n, full), a)
		checkWhere(t, with(with(times(n, a), 0, b), n-1, b), b, slices.Compact([]int{0, n - 1})...)
	}
}

func TestWhereOfSamples(t *testing.T) {
	for _, l := range samples() {
		for _, element := range []api.Class{a, b, c, ab, first, last, ends, most, full, none} {
			var want []int
			for i := range l.P {
				if slices.Equal(bytesOf(l.P[i]), bytesOf(element)) {
					want = append(want, i)
				}
			}
			checkWhere(t, l, element, want...)
		}
	}
}

func checkSame(t *testing.T, x, y api.Leaf, want bool) {
	t.Helper()
	if Same(x, y) != want || Same(y, x) != want {
		t.Errorf("P7.1: Same of %v and %v is %v, the other way round %v", x, y, Same(x, y), Same(y, x))
	}
}

func TestSame(t *testing.T) {
	checkSame(t, api.Leaf{}, api.Leaf{P: []api.Class{}}, true)
	checkSame(t, api.Leaf{K: 3}, api.Leaf{P: []api.Class{}, K: 3}, true)
	checkSame(t, api.Leaf{}, api.Leaf{K: 1}, false)
	checkSame(t, api.Leaf{}, row(none), false)
	checkSame(t, row(none), row(none, none), false)
	checkSame(t, row(a, b), row(b, a), false)
	checkSame(t, row(a), row(ab), false)
	checkSame(t, row(full), row(most), false)
	for _, l := range samples() {
		checkSame(t, l, l, true)
		checkSame(t, l, api.Leaf{P: slices.Clone(l.P), K: l.K}, true)
		checkSame(t, l, api.Leaf{P: l.P, K: l.K + 1}, false)
		checkSame(t, l, api.Leaf{P: l.P, K: -l.K - 1}, false)
		longer := api.Leaf{P: append(slices.Clone(l.P), full), K: l.K}
		checkSame(t, l, longer, false)
		for at := range l.P {
			checkSame(t, l, api.Leaf{P: l.P[:at], K: l.K}, false)
			other := l.P[at]
			other[at%4] ^= 1 << (at % 64)
			checkSame(t, l, with(l, at, other), false)
		}
	}
}

func TestSameByK(t *testing.T) {
	for _, j := range misses {
		for _, k := range misses {
			checkSame(t, Text("ab", j), Text("ab", k), j == k)
		}
	}
}

func TestEachBoundPlaceIsOfOneKind(t *testing.T) {
	for _, l := range samples() {
		held := make([]int, len(l.P))
		for _, kind := range Kinds(l) {
			for _, at := range Where(l, kind) {
				held[at]++
			}
		}
		bound := 0
		for i, element := range l.P {
			want := 1
			if len(bytesOf(element)) == 256 {
				want = 0
			}
			if bound += want; held[i] != want {
				t.Errorf("P7.3: place %d of %v is in Where of %d Kinds", i, l.P, held[i])
			}
		}
		if Bound(l) != bound {
			t.Errorf("P7.2: Bound of %v is %d", l.P, Bound(l))
		}
	}
}

// ask makes each call that takes a leaf.
func ask(l api.Leaf) (bool, bool, string, bool, int, bool) {
	letters, is := Letters(l)
	_, _, _ = Kinds(l), Where(l, a), Where(l, full)
	return Right(l), Plain(l), letters, is, Bound(l), Same(l, l)
}

func TestWhatIsGivenStays(t *testing.T) {
	for _, l := range samples() {
		// What lies behind the elements in their memory is not the leaf's.
		memory := append(slices.Clone(l.P), ends, ab, ends)
		given := api.Leaf{P: memory[:len(l.P)], K: l.K}
		before := slices.Clone(memory)
		ask(given)
		if !slices.Equal(memory, before) || given.K != l.K || len(given.P) != len(l.P) {
			t.Errorf("R5: the calls change %v", before)
		}
	}
}

func TestWhatIsToldIsTheCallersOwn(t *testing.T) {
	for _, l := range samples() {
		before := slices.Clone(l.P)
		kinds, places := Kinds(l), Where(l, a)
		wantKinds, wantPlaces := slices.Clone(kinds), slices.Clone(places)
		otherKinds, otherPlaces := Kinds(l), Where(l, a)
		for i := range kinds {
			kinds[i] = ends
		}
		for i := range places {
			places[i] = -7
		}
		_, _ = append(kinds, ends), append(places, -7)
		if !slices.Equal(l.P, before) {
			t.Errorf("R6: to write into what was told changes %v", before)
		}
		if !slices.Equal(otherKinds, wantKinds) || !slices.Equal(Kinds(l), wantKinds) {
			t.Errorf("R6: to write into Kinds of %v changes others", before)
		}
		if !slices.Equal(otherPlaces, wantPlaces) || !slices.Equal(Where(l, a), wantPlaces) {
			t.Errorf("R6: to write into Where of %v changes others", before)
		}
		// What was told is no view of the leaf either.
		if len(l.P) > 0 {
			l.P[0] = ends
		}
		if !slices.Equal(otherKinds, wantKinds) || !slices.Equal(otherPlaces, wantPlaces) {
			t.Errorf("R6: to write into the leaf of %v changes what was told of it", before)
		}
	}
	x, y := Text("abca", 3), Text("abca", 3)
	x.P[0], x.P[3] = ends, full
	x.P = append(x.P, ab)
	if !Same(y, Text("abca", 3)) || !slices.Equal(y.P, []api.Class{a, b, c, a}) {
		t.Error("R6: to write into a Text changes others")
	}
}

func TestTheSameIsToldAlways(t *testing.T) {
	leaves := append(each(), mixed(1, 64, a, b, c, ab, first, last, ends, most, full), row(c, b, a, ab))
	for _, l := range leaves {
		want := Kinds(l)
		for range 200 {
			if got := Kinds(l); !slices.Equal(got, want) || !slices.Equal(got, kindsOf(l)) {
				t.Fatalf("R7: Kinds of %v are told in another order", l.P)
			}
		}
	}
}

func TestExample(t *testing.T) {
	l := api.Leaf{P: []api.Class{class.Of("a"), class.Full(), class.Of("b"), class.Of("a")}}
	if !Plain(l) {
		t.Error("P7.2: a ? b a is not Plain")
	}
	checkLetters(t, l, "", false)
	if Bound(l) != 3 {
		t.Errorf("P7.2: Bound of a ? b a is %d", Bound(l))
	}
	if got := Kinds(l); !slices.Equal(got, []api.Class{class.Of("a"), class.Of("b")}) {
		t.Errorf("P7.2: Kinds of a ? b a are %v", got)
	}
	checkWhere(t, l, class.Of("a"), 0, 3)
}
