package conv

import (
	"math"
	"math/big"
	"slices"
	"testing"

	"beagle/api"
)

// call is School, Fast or Correlate.
type call struct {
	name string
	do   func(a, b []uint64) ([]uint64, api.Errno)
}

var products = []call{{"School", School}, {"Fast", Fast}}

var calls = append(slices.Clone(products), call{"Correlate", Correlate})

func whole(n uint64) *big.Int { return new(big.Int).SetUint64(n) }

// refusal tells the error that the document asks for two rows that are not empty.
func refusal(a, b []uint64) api.Errno {
	if len(a)+len(b) > 4097 {
		return api.ErrConvLong
	}
	bound := new(big.Int).Mul(whole(slices.Max(a)), whole(slices.Max(b)))
	bound.Mul(bound, big.NewInt(int64(min(len(a), len(b)))))
	if !bound.IsUint64() {
		return api.ErrConvBig
	}
	return api.OK
}

// numbersOf tells big sums as numbers of 64 bits.
func numbersOf(t *testing.T, sums []*big.Int) []uint64 {
	t.Helper()
	var l []uint64
	for _, sum := range sums {
		if !sum.IsUint64() {
			t.Fatalf("the sample has the sum %v", sum)
		}
		l = append(l, sum.Uint64())
	}
	return l
}

// productOfBig tells the product of two rows, each sum gathered for itself.
func productOfBig(t *testing.T, a, b []uint64) ([]uint64, api.Errno) {
	t.Helper()
	if len(a) == 0 || len(b) == 0 {
		return nil, api.OK
	}
	if errno := refusal(a, b); errno != api.OK {
		return nil, errno
	}
	var sums []*big.Int
	part := new(big.Int)
	for i := range len(a) + len(b) - 1 {
		sum := new(big.Int)
		for j := max(0, i-len(b)+1); j < len(a) && j <= i; j++ {
			if a[j] != 0 && b[i-j] != 0 {
				sum.Add(sum, part.Mul(whole(a[j]), whole(b[i-j])))
			}
		}
		sums = append(sums, sum)
	}
	return numbersOf(t, sums), api.OK
}

// slideOfBig tells the sums of p slid along l.
func slideOfBig(t *testing.T, p, l []uint64) ([]uint64, api.Errno) {
	t.Helper()
	if len(p) == 0 || len(p) > len(l) {
		return nil, api.OK
	}
	if errno := refusal(p, l); errno != api.OK {
		return nil, errno
	}
	var sums []*big.Int
	part := new(big.Int)
	for i := 0; i+len(p) <= len(l); i++ {
		sum := new(big.Int)
		for j := range p {
			sum.Add(sum, part.Mul(whole(p[j]), whole(l[i+j])))
		}
		sums = append(sums, sum)
	}
	return numbersOf(t, sums), api.OK
}

// ordinary are n numbers of so many bits at most, always the same ones for one seed.
func ordinary(seed, n, width int) []uint64 {
	x := uint64(88172645463325252) + uint64(seed)*2654435761
	l := make([]uint64, n)
	for i := range l {
		x ^= x << 13
		x ^= x >> 7
		x ^= x << 17
		l[i] = x >> (64 - width)
	}
	return l
}

// filled are n times the same number.
func filled(n int, number uint64) []uint64 { return slices.Repeat([]uint64{number}, n) }

// only are n zeros but for one place.
func only(n, at int, number uint64) []uint64 {
	l := make([]uint64, n)
	l[at] = number
	return l
}

func turnedRound(l []uint64) []uint64 {
	l = slices.Clone(l)
	slices.Reverse(l)
	return l
}

// checkProducts holds School and Fast, both rows in both orders, against the sums of big numbers.
func checkProducts(t *testing.T, promise string, a, b []uint64) {
	t.Helper()
	want, wrong := productOfBig(t, a, b)
	for _, c := range products {
		for _, rows := range [][2][]uint64{{a, b}, {b, a}} {
			got, errno := c.do(rows[0], rows[1])
			if errno != wrong || !slices.Equal(got, want) {
				t.Errorf("%s: %s of %d and %d numbers, up to %d and %d, tells %d numbers, error %d, not %d numbers, error %d, or others", promise, c.name, len(rows[0]), len(rows[1]), Greatest(rows[0]), Greatest(rows[1]), len(got), errno, len(want), wrong)
			}
		}
	}
}

// checkSlide holds Correlate against the sums of big numbers.
func checkSlide(t *testing.T, promise string, p, l []uint64) {
	t.Helper()
	want, wrong := slideOfBig(t, p, l)
	got, errno := Correlate(p, l)
	if errno != wrong || !slices.Equal(got, want) {
		t.Errorf("%s: Correlate of %d and %d numbers, up to %d and %d, tells %d numbers, error %d, not %d numbers, error %d, or others", promise, len(p), len(l), Greatest(p), Greatest(l), len(got), errno, len(want), wrong)
	}
}

func TestSize(t *testing.T) {
	want := 1
	for n := 1; n <= 4096; n++ {
		if n > want {
			want *= 2
		}
		if size, ok := Size(n); size != want || !ok {
			t.Errorf("P4.1: Size(%d) is %d, %v, not %d", n, size, ok, want)
		}
	}
	for _, n := range []int{math.MinInt, math.MinInt + 1, -4096, -2, -1, 0, 4097, 4098, 8192, 1 << 40, math.MaxInt - 1, math.MaxInt} {
		if size, ok := Size(n); size != 0 || ok {
			t.Errorf("P4.1: Size(%d) is %d, %v", n, size, ok)
		}
	}
}

func TestGreatest(t *testing.T) {
	for _, l := range [][]uint64{nil, {}, {0}, {0, 0, 0}} {
		if got := Greatest(l); got != 0 {
			t.Errorf("P4.1: Greatest(%d) is %d", l, got)
		}
	}
	for _, number := range []uint64{1, 7, 1 << 31, 1 << 32, 1 << 63, 1<<63 - 1, math.MaxUint64 - 1, math.MaxUint64} {
		for n := 1; n < 6; n++ {
			for at := range n {
				l := filled(n, number-1)
				l[at] = number
				if got := Greatest(l); got != number {
					t.Errorf("P4.1: Greatest(%d) is %d", l, got)
				}
			}
		}
	}
	for n := 1; n < 40; n++ {
		l := ordinary(n, n, 64)
		if got := Greatest(l); got != slices.Max(l) {
			t.Errorf("P4.1: Greatest(%d) is %d", l, got)
		}
	}
}

func TestProductsOfFewNumbers(t *testing.T) {
	for n := range 14 {
		for m := range 14 {
			for _, width := range []int{1, 8, 28, 30} {
				checkProducts(t, "P4.2", ordinary(n, n, width), ordinary(m+50, m, width))
			}
			checkProducts(t, "P4.2", ordinary(n, n, 3), ordinary(m, m, 57))
		}
	}
}

func TestProductsAboutPowersOfTwo(t *testing.T) {
	for size := 4; size <= 256; size *= 2 {
		for _, n := range []int{size - 1, size, size + 1} {
			for _, first := range []int{1, 2, n / 3, n / 2, n - 1, n} {
				// Both have together one more than their product.
				if first < 1 {
					continue
				}
				checkProducts(t, "P4.2", ordinary(n, first, 28), ordinary(n+1, n+1-first, 28))
				checkProducts(t, "P4.2", ordinary(n, first, 11), ordinary(n+1, n+1-first, 45))
			}
		}
	}
}

func TestRowsThatAreEmpty(t *testing.T) {
	rows := [][]uint64{nil, {}, {1}, {0, 0}, {math.MaxUint64}, filled(4096, 5), filled(4097, 5), filled(9000, math.MaxUint64)}
	for _, c := range calls {
		for _, l := range rows {
			for _, none := range [][]uint64{nil, {}} {
				if got, errno := c.do(none, l); len(got) != 0 || errno != api.OK {
					t.Errorf("P4.2, P4.3, R3: %s of none and %d numbers tells %d numbers, error %d", c.name, len(l), len(got), errno)
				}
				if got, errno := c.do(l, none); len(got) != 0 || errno != api.OK {
					t.Errorf("P4.2, P4.3, R3: %s of %d numbers and none tells %d numbers, error %d", c.name, len(l), len(got), errno)
				}
			}
		}
	}
}

func TestLongestProducts(t *testing.T) {
	for _, n := range []int{1, 2, 3, 1023, 2048} {
		m := 4097 - n
		if got, errno := Fast(filled(n, 1), filled(m, 1)); errno != api.OK || len(got) != 4096 || got[4095] != 1 || got[2048] != uint64(n) {
			t.Errorf("P4.2: Fast of %d and %d ones tells %d numbers, error %d", n, m, len(got), errno)
		}
		checkProducts(t, "P4.2", only(n, n-1, 1<<31), only(m, m-1, 1<<21))
		school, errno := School(ordinary(n, n, 26), ordinary(m, m, 26))
		fast, other := Fast(ordinary(n, n, 26), ordinary(m, m, 26))
		if errno != api.OK || other != api.OK || len(school) != 4096 || !slices.Equal(school, fast) {
			t.Errorf("P4.4: School and Fast of %d and %d numbers tell errors %d and %d, or others", n, m, errno, other)
		}
	}
	checkProducts(t, "P4.2", ordinary(1, 1, 32), ordinary(2, 4096, 32))
	checkProducts(t, "P4.2", ordinary(1, 700, 27), ordinary(2, 3397, 27))
}

func TestProductsThatAreTooLong(t *testing.T) {
	for _, n := range []int{1, 2, 3, 1023, 2048, 2049, 4095, 4096, 4097, 9000} {
		m := max(1, 4098-n)
		// Too big, too, in the last: the error that is named first is told.
		for _, rows := range [][2][]uint64{{make([]uint64, n), make([]uint64, m)}, {filled(n, 1), filled(m, 1)}, {filled(n, math.MaxUint64), filled(m, math.MaxUint64)}} {
			for _, c := range products {
				if got, errno := c.do(rows[0], rows[1]); len(got) != 0 || errno != api.ErrConvLong {
					t.Errorf("P4.2, R1: %s of %d and %d numbers tells %d numbers, error %d", c.name, n, m, len(got), errno)
				}
				if got, errno := c.do(rows[1], rows[0]); len(got) != 0 || errno != api.ErrConvLong {
					t.Errorf("P4.2, R1: %s of %d and %d numbers tells %d numbers, error %d", c.name, m, n, len(got), errno)
				}
			}
			if n > m {
				continue
			}
			if got, errno := Correlate(rows[0], rows[1]); len(got) != 0 || errno != api.ErrConvLong {
				t.Errorf("P4.3, R1: Correlate of %d and %d numbers tells %d numbers, error %d", n, m, len(got), errno)
			}
		}
	}
}

// atTheLimit are two rows' greatest numbers, and how many the shorter row has, whose product is below 2^64 by little.
var atTheLimit = []struct {
	a, b uint64
	n    int
}{
	{math.MaxUint64, 1, 1},
	{1<<32 - 1, 1<<32 + 1, 1},
	{1<<63 - 1, 2, 1},
	{1<<63 - 1, 1, 2},
	{1<<32 - 1, 1 << 31, 2},
	{math.MaxUint64 / 3, 1, 3},
	{math.MaxUint64 / 15, 5, 3},
	{1<<31 - 1, 1 << 31, 4},
	{math.MaxUint64 / 5, 1, 5},
	{math.MaxUint64 / 17, 1, 17},
	{math.MaxUint64 / 257 / 65537, 65537, 257},
	{math.MaxUint64 / 257, 1, 257},
	{1<<53 - 1, 1, 2048},
	{1<<27 - 1, 1 << 26, 2048},
}

func TestGreatestSumsBelowTheLimit(t *testing.T) {
	for _, x := range atTheLimit {
		for _, more := range []int{0, 1, 7} {
			short, long := x.n, x.n+more
			if short+long > 4097 {
				continue
			}
			for _, numbers := range [][2]uint64{{x.a, x.b}, {x.b, x.a}} {
				if short < 2000 {
					checkProducts(t, "P4.2, R4", filled(short, numbers[0]), filled(long, numbers[1]))
					checkSlide(t, "P4.3, R4", filled(short, numbers[0]), filled(long, numbers[1]))
				}
				checkMiddle(t, filled(short, numbers[0]), filled(long, numbers[1]))
			}
		}
	}
}

// checkMiddle holds the sum of the most products against all numbers of the shorter row times the longer one's.
func checkMiddle(t *testing.T, short, long []uint64) {
	t.Helper()
	want := short[0] * long[0] * uint64(len(short))
	for _, c := range products {
		if got, errno := c.do(short, long); errno != api.OK || len(got) != len(short)+len(long)-1 || got[len(short)-1] != want {
			t.Errorf("P4.2, R4: %s of %d times %d and %d times %d tells %d numbers, error %d, or others", c.name, len(short), short[0], len(long), long[0], len(got), errno)
		}
	}
	if got, errno := Correlate(short, long); errno != api.OK || !slices.Equal(got, filled(len(long)-len(short)+1, want)) {
		t.Errorf("P4.3, R4: Correlate of %d times %d and %d times %d tells %d, error %d", len(short), short[0], len(long), long[0], got, errno)
	}
}

// overTheLimit are such numbers whose product is just 2^64, or more.
var overTheLimit = []struct {
	a, b uint64
	n    int
}{
	{1 << 32, 1 << 32, 1},
	{1 << 63, 2, 1},
	{math.MaxUint64, 2, 1},
	{math.MaxUint64, math.MaxUint64, 1},
	{math.MaxUint64, math.MaxUint64, 2},
	{1 << 63, 1, 2},
	{1 << 32, 1 << 31, 2},
	{1 << 62, 1 << 2, 2},
	{math.MaxUint64/3 + 1, 1, 3},
	{1 << 31, 1 << 31, 4},
	{1 << 40, 1 << 40, 4},
	{1 << 33, 1 << 31, 5},
	{math.MaxUint64/257 + 1, 1, 257},
	{1 << 53, 1, 2048},
	{1 << 27, 1 << 26, 2048},
}

func TestProductsThatAreTooBig(t *testing.T) {
	for _, x := range overTheLimit {
		for _, more := range []int{0, 1} {
			for _, at := range []int{0, x.n / 2, x.n - 1} {
				// Zeros about the greatest keep the sums small: they are refused none the less.
				a, b := only(x.n, at, x.a), only(x.n+more, x.n-1-at, x.b)
				for _, rows := range [][2][]uint64{{a, b}, {b, a}, {filled(x.n, x.a), filled(x.n+more, x.b)}} {
					checkTooBig(t, rows[0], rows[1])
				}
			}
		}
	}
}

func checkTooBig(t *testing.T, a, b []uint64) {
	t.Helper()
	for _, c := range calls {
		want := api.ErrConvBig
		if c.name == "Correlate" && len(a) > len(b) {
			want = api.OK
		}
		if got, errno := c.do(a, b); len(got) != 0 || errno != want {
			t.Errorf("P4.2, P4.3, R1: %s of %d numbers up to %d and %d up to %d tells %d numbers, error %d", c.name, len(a), Greatest(a), len(b), Greatest(b), len(got), errno)
		}
	}
}

func TestHowManyAreCountedIsTheShorterRow(t *testing.T) {
	// The longer row alone would make it too big.
	for _, long := range []int{2, 3, 100, 4095} {
		checkProducts(t, "P4.2", []uint64{1 << 32}, filled(long, 1<<32-1))
		checkProducts(t, "P4.2", []uint64{1, 1}, filled(long, 1<<63-1))
		checkSlide(t, "P4.3", []uint64{1, 1}, filled(long, 1<<63-1))
		checkSlide(t, "P4.3", []uint64{math.MaxUint64}, filled(long, 1))
	}
}

func TestZerosBesideTheGreatest(t *testing.T) {
	for _, n := range []int{1, 2, 3, 64, 1000} {
		for _, m := range []int{1, 2, 3, 64, 1000} {
			zeros, greatest := make([]uint64, n), filled(m, math.MaxUint64)
			checkProducts(t, "P4.2", zeros, greatest)
			for _, c := range products {
				if got, errno := c.do(zeros, greatest); errno != api.OK || !slices.Equal(got, make([]uint64, n+m-1)) {
					t.Errorf("P4.2: %s of %d zeros and %d times 2^64 - 1 tells %d numbers, error %d, or others", c.name, n, m, len(got), errno)
				}
			}
			for _, rows := range [][2][]uint64{{zeros, greatest}, {greatest, zeros}} {
				places := max(0, len(rows[1])-len(rows[0])+1)
				if got, errno := Correlate(rows[0], rows[1]); errno != api.OK || !slices.Equal(got, make([]uint64, places)) {
					t.Errorf("P4.3: Correlate of %d and %d numbers, zeros and 2^64 - 1, tells %d numbers, error %d, or others", len(rows[0]), len(rows[1]), len(got), errno)
				}
			}
		}
	}
}

func TestNumbersAboveThePrimes(t *testing.T) {
	for _, p := range []uint64{998244353, 167772161, 469762049} {
		edges := []uint64{p - 1, p, p + 1, 2*p - 1, 2 * p, 0, 1}
		checkProducts(t, "P4.2", edges, []uint64{p - 1, p, p + 1})
		checkProducts(t, "P4.2", []uint64{p * p, p*p + 1, p*p - 1}, []uint64{1, 3, 2})
		checkSlide(t, "P4.3", []uint64{p - 1, p, p + 1}, edges)
	}
	checkProducts(t, "P4.2", []uint64{998244353 * 167772161}, []uint64{1, 2, 99})
	checkProducts(t, "P4.2", []uint64{math.MaxUint64 - 1}, []uint64{1, 0, 1, 1})
}

func TestCorrelate(t *testing.T) {
	for n := range 14 {
		for m := range 14 {
			for _, width := range []int{1, 8, 28, 30} {
				checkSlide(t, "P4.3", ordinary(n, n, width), ordinary(m+50, m, width))
			}
		}
	}
	for _, x := range [][2]int{{1, 1}, {1, 500}, {17, 256}, {100, 257}, {255, 256}, {500, 500}, {1, 4096}, {2, 4095}, {1366, 2731}} {
		checkSlide(t, "P4.3", ordinary(1, x[0], 26), ordinary(2, x[1], 26))
	}
}

func TestCorrelateAsManyAndOneMore(t *testing.T) {
	for _, n := range []int{1, 2, 3, 64, 2048} {
		p := filled(n, 3)
		if got, errno := Correlate(p, filled(n, 5)); errno != api.OK || !slices.Equal(got, []uint64{15 * uint64(n)}) {
			t.Errorf("P4.3: Correlate of %d and %d numbers tells %d, error %d", n, n, got, errno)
		}
		if got, errno := Correlate(append(p, 3), filled(n, 5)); errno != api.OK || len(got) != 0 {
			t.Errorf("P4.3: Correlate of %d and %d numbers tells %d, error %d", n+1, n, got, errno)
		}
		if got, errno := Correlate(p, filled(n+1, 5)); errno != api.OK || len(got) != 2 {
			t.Errorf("P4.3: Correlate of %d and %d numbers tells %d, error %d", n, n+1, got, errno)
		}
	}
	// None is told ahead of an error.
	for _, p := range [][]uint64{filled(3, math.MaxUint64), filled(5000, 1), filled(5000, math.MaxUint64)} {
		if got, errno := Correlate(p, filled(2, math.MaxUint64)); errno != api.OK || len(got) != 0 {
			t.Errorf("P4.3: Correlate of %d and 2 numbers tells %d numbers, error %d", len(p), len(got), errno)
		}
	}
}

func TestCorrelateTellsTheErrorOfSchool(t *testing.T) {
	for _, n := range []int{1, 2, 3, 2048, 2049, 4096} {
		for _, m := range []int{n, n + 1, 4097 - n, 4098 - n} {
			for _, number := range []uint64{0, 1, 1 << 20, 1 << 31, 1 << 32, math.MaxUint64} {
				if m < n {
					continue
				}
				_, want := School(filled(n, number), filled(m, number))
				if _, errno := Correlate(filled(n, number), filled(m, number)); errno != want {
					t.Errorf("P4.3: of %d and %d times %d Correlate tells error %d, School %d", n, m, number, errno, want)
				}
			}
		}
	}
}

func TestSchoolAndFastAreTheSameInBothOrders(t *testing.T) {
	for n := 1; n < 70; n++ {
		for m := 1; m < 70; m++ {
			a, b := ordinary(n, n, 28), ordinary(m+99, m, 28)
			want, _ := School(a, b)
			for _, c := range products {
				for _, rows := range [][2][]uint64{{a, b}, {b, a}} {
					if got, errno := c.do(rows[0], rows[1]); errno != api.OK || len(got) != n+m-1 || !slices.Equal(got, want) {
						t.Errorf("P4.4: %s of %d and %d numbers tells others, or error %d", c.name, len(rows[0]), len(rows[1]), errno)
					}
				}
			}
		}
	}
}

// added tells the sums of two rows, place by place.
func added(a, b []uint64) []uint64 {
	sum := slices.Clone(a)
	for i := range sum {
		sum[i] += b[i]
	}
	return sum
}

func TestSumsProductIsTheSumOfTheProducts(t *testing.T) {
	for _, x := range [][2]int{{1, 1}, {1, 5}, {2, 3}, {8, 8}, {9, 8}, {100, 30}, {1000, 2000}, {2048, 2049}} {
		a, other, b := ordinary(1, x[0], 25), ordinary(2, x[0], 25), ordinary(3, x[1], 25)
		for _, c := range calls {
			first, _ := c.do(a, b)
			second, _ := c.do(other, b)
			if got, errno := c.do(added(a, other), b); errno != api.OK || !slices.Equal(got, added(first, second)) {
				t.Errorf("P4.4: %s of a sum of %d numbers and %d numbers is not the sum, or tells error %d", c.name, x[0], x[1], errno)
			}
		}
	}
}

func TestCorrelateIsAPartOfAProduct(t *testing.T) {
	for _, x := range [][2]int{{1, 1}, {1, 9}, {2, 2}, {2, 3}, {3, 8}, {64, 64}, {63, 300}, {5, 4092}, {1000, 3000}, {2048, 2049}} {
		p, l := ordinary(1, x[0], 26), ordinary(2, x[1], 26)
		got, errno := Correlate(p, l)
		for _, c := range products {
			product, _ := c.do(l, turnedRound(p))
			if errno != api.OK || !slices.Equal(got, product[x[0]-1:x[1]]) {
				t.Errorf("P4.4: Correlate of %d and %d numbers is no part of what %s tells, or tells error %d", x[0], x[1], c.name, errno)
			}
		}
	}
}

func TestWhatIsGivenStays(t *testing.T) {
	for _, c := range calls {
		for _, width := range []int{20, 64} {
			// Parts of longer rows: nothing may be written behind them, either.
			a, b := ordinary(1, 20, width), ordinary(2, 40, width)
			first, second := slices.Clone(a), slices.Clone(b)
			c.do(a[:9], b[:30])
			c.do(a[3:4], b[7:39])
			c.do(b[:30], a[:9])
			c.do(a, a)
			c.do(a[:16], a[2:])
			c.do(a, make([]uint64, 5000))
			if !slices.Equal(a, first) || !slices.Equal(b, second) {
				t.Errorf("R5: %s has changed what it was given", c.name)
			}
		}
	}
	l := []uint64{3, 9, 1}
	if Greatest(l); !slices.Equal(l, []uint64{3, 9, 1}) {
		t.Error("R5: Greatest has changed what it was given")
	}
}

func TestWhatIsToldIsTheCallersOwn(t *testing.T) {
	for _, c := range calls {
		for _, given := range [][]uint64{{1}, {1, 0}, {2, 1, 3}} {
			a, b := slices.Clone(given), []uint64{4, 5, 6, 7}
			first, _ := c.do(a, b)
			second, _ := c.do(a, b)
			kept := slices.Clone(second)
			for i := range first[:cap(first)] {
				first[:cap(first)][i] = 99
			}
			if !slices.Equal(second, kept) || !slices.Equal(a, given) || !slices.Equal(b, []uint64{4, 5, 6, 7}) {
				t.Errorf("R6: writing into what %s told has changed %d, %d or %d", c.name, second, a, b)
			}
			a[0], b[0], b[3] = 97, 97, 97
			if !slices.Equal(second, kept) {
				t.Errorf("R6: writing into what %s was given has changed what it told", c.name)
			}
		}
	}
}

func TestSameCallsTellTheSame(t *testing.T) {
	for _, c := range calls {
		for _, width := range []int{8, 28, 64} {
			a, b := ordinary(1, 30, width), ordinary(2, 50, width)
			first, errno := c.do(a, b)
			c.do(b, b)
			second, other := c.do(a, b)
			if errno != other || !slices.Equal(first, second) {
				t.Errorf("R7: %s tells one thing in two ways", c.name)
			}
		}
	}
}

func TestExamples(t *testing.T) {
	for _, c := range products {
		if got, errno := c.do([]uint64{1, 2}, []uint64{3, 4, 5}); errno != api.OK || !slices.Equal(got, []uint64{3, 10, 13, 10}) {
			t.Errorf("P4.2: %s(1 2, 3 4 5) is %d, error %d", c.name, got, errno)
		}
	}
	if got, errno := Correlate([]uint64{1, 2}, []uint64{3, 4, 5}); errno != api.OK || !slices.Equal(got, []uint64{11, 14}) {
		t.Errorf("P4.3: Correlate(1 2, 3 4 5) is %d, error %d", got, errno)
	}
}
