package block

import (
	"math"
	"math/big"
	"slices"
	"testing"

	"beagle/api"
	"beagle/conv"
)

// sizes are all that a block may have.
var sizes = []int{1, 2, 4, 8, 16, 32, 64, 128, 256, 512, 1024, 2048, 4096}

// noSizes are none, whatever is slid.
var noSizes = []int{math.MinInt, math.MinInt + 1, -4096, -4, -2, -1, 0, 3, 5, 6, 7, 9, 12, 63, 65, 1000, 4095, 4097, 6144, 8192, 1 << 32, 1<<32 + 4, 1 << 62, math.MaxInt}

// ordinary are n numbers of so many bits at most, always the same ones for one seed.
func ordinary(seed, n, width int) []uint64 {
	x := uint64(88172645463325252) + uint64(seed)*2654435761
	l := make([]uint64, n)
	for i := range l {
		x ^= x << 13
		x ^= x >> 7
		x ^= x << 17
		l[i] = x >> (64 - width)
	}
	return l
}

// filled are n times the same number.
func filled(n int, number uint64) []uint64 { return slices.Repeat([]uint64{number}, n) }

// only are n zeros but for one place.
func only(n, at int, number uint64) []uint64 {
	l := make([]uint64, n)
	l[at] = number
	return l
}

func whole(n uint64) *big.Int { return new(big.Int).SetUint64(n) }

// refusal tells the error that the document asks for, by big numbers.
func refusal(p, l []uint64, size int) api.Errno {
	if len(p) == 0 || len(p) > len(l) {
		return api.OK
	}
	if !slices.Contains(sizes, size) || size < len(p) {
		return api.ErrBlockSize
	}
	bound := new(big.Int).Mul(whole(slices.Max(p)), whole(slices.Max(l)))
	if bound.Mul(bound, big.NewInt(int64(len(p)))).BitLen() > 64 {
		return api.ErrConvBig
	}
	return api.OK
}

// slideOfBig tells the sums of p slid along l, product by product.
func slideOfBig(t *testing.T, p, l []uint64) []uint64 {
	t.Helper()
	var sums []uint64
	if len(p) == 0 {
		return sums
	}
	part := new(big.Int)
	for i := 0; i+len(p) <= len(l); i++ {
		sum := new(big.Int)
		for j := range p {
			sum.Add(sum, part.Mul(whole(p[j]), whole(l[i+j])))
		}
		if !sum.IsUint64() {
			t.Fatalf("the sample has the sum %v", sum)
		}
		sums = append(sums, sum.Uint64())
	}
	return sums
}

// slideOf tells the same of numbers whose sums are known to be below 2^64.
func slideOf(p, l []uint64) []uint64 {
	var sums []uint64
	for i := 0; len(p) > 0 && i+len(p) <= len(l); i++ {
		var sum uint64
		for j := range p {
			sum += p[j] * l[i+j]
		}
		sums = append(sums, sum)
	}
	return sums
}

// countOf tells the transforms by going from block to block.
func countOf(m, n, size int) int {
	if m < 1 || m > n || !slices.Contains(sizes, size) || size < m {
		return 0
	}
	count := 3
	for left := n - m + 1; left > 0; left -= size - m + 1 {
		count += 6
	}
	return count
}

// checkSums holds Correlate against the sums that are wanted, and against the number of transforms.
func checkSums(t *testing.T, promise string, p, l []uint64, size int, want []uint64) {
	t.Helper()
	got, count, errno := Correlate(p, l, size)
	if errno != api.OK || !slices.Equal(got, want) {
		t.Errorf("%s: Correlate of %d and %d numbers in blocks of %d tells %d sums, error %d, not %d sums, or others", promise, len(p), len(l), size, len(got), errno, len(want))
	}
	if other := countOf(len(p), len(l), size); count != other || count != Count(len(p), len(l), size) {
		t.Errorf("P5.3: Correlate of %d and %d numbers in blocks of %d tells %d transforms, not %d", len(p), len(l), size, count, other)
	}
}

// checkError holds Check and Correlate against one error.
func checkError(t *testing.T, p, l []uint64, size int, want api.Errno) {
	t.Helper()
	if errno := Check(p, l, size); errno != want {
		t.Errorf("P5.1: Check of %d numbers up to %d and %d up to %d, size %d, is %d, not %d", len(p), conv.Greatest(p), len(l), conv.Greatest(l), size, errno, want)
	}
	got, count, errno := Correlate(p, l, size)
	if errno != want {
		t.Errorf("P5.3: Correlate of %d numbers up to %d and %d up to %d, size %d, tells error %d, not %d", len(p), conv.Greatest(p), len(l), conv.Greatest(l), size, errno, want)
	}
	if errno != api.OK && (len(got) != 0 || count != 0) {
		t.Errorf("R1: beside error %d Correlate tells %d sums and %d transforms", errno, len(got), count)
	}
}

func TestCheckOfWhatCannotBeSlid(t *testing.T) {
	for _, size := range append(noSizes, sizes...) {
		for _, l := range [][]uint64{nil, {}, {1}, {math.MaxUint64}, filled(100, math.MaxUint64)} {
			// Neither the size nor the numbers matter.
			for _, p := range [][]uint64{nil, {}, filled(len(l)+1, 1), filled(len(l)+1, math.MaxUint64), filled(5000, 7)} {
				checkError(t, p, l, size, api.OK)
				if got, count, errno := Correlate(p, l, size); len(got) != 0 || count != 0 || errno != api.OK {
					t.Errorf("P5.3, R3: Correlate of %d and %d numbers, size %d, tells %d, %d, error %d", len(p), len(l), size, got, count, errno)
				}
			}
		}
	}
}

func TestCheckAtAsManyAndOneMore(t *testing.T) {
	for _, n := range []int{1, 2, 3, 64, 100, 4096} {
		for _, size := range append(noSizes, sizes...) {
			want := api.OK
			if !slices.Contains(sizes, size) || size < n {
				want = api.ErrBlockSize
			}
			if errno := Check(filled(n, 3), filled(n, 5), size); errno != want {
				t.Errorf("P5.1: Check of %d and %d numbers, size %d, is %d, not %d", n, n, size, errno, want)
			}
			if errno := Check(filled(n+1, 3), filled(n, 5), size); errno != api.OK {
				t.Errorf("P5.1: Check of %d and %d numbers, size %d, is %d", n+1, n, size, errno)
			}
		}
	}
}

func TestCheckOfSizes(t *testing.T) {
	l := filled(5000, 1)
	for _, m := range []int{1, 2, 3, 4, 5, 7, 8, 9, 63, 64, 65, 1000, 2048, 2049, 4095, 4096} {
		p := filled(m, 1)
		for _, size := range noSizes {
			checkError(t, p, l, size, api.ErrBlockSize)
		}
		for size := -3; size <= 8193; size++ {
			want := api.OK
			if !slices.Contains(sizes, size) || size < m {
				want = api.ErrBlockSize
			}
			if errno := Check(p[:m], l[:m], size); errno != want {
				t.Errorf("P5.1: Check of %d and %d numbers, size %d, is %d, not %d", m, m, size, errno, want)
			}
		}
	}
	// The number of p itself is enough, and one less is not.
	for _, size := range sizes {
		checkError(t, filled(size, 1), l[:size], size, api.OK)
		checkError(t, filled(size+1, 1), l[:size+1], size, api.ErrBlockSize)
	}
	for _, size := range sizes {
		checkError(t, filled(4097, 1), l, size, api.ErrBlockSize)
	}
}

// atTheLimit are two rows' greatest numbers, and how many p has, whose product is below 2^64 by little.
var atTheLimit = []struct {
	a, b uint64
	n    int
}{
	{math.MaxUint64, 1, 1},
	{1<<32 - 1, 1<<32 + 1, 1},
	{1<<63 - 1, 2, 1},
	{1<<63 - 1, 1, 2},
	{1<<32 - 1, 1 << 31, 2},
	{math.MaxUint64 / 3, 1, 3},
	{math.MaxUint64 / 15, 5, 3},
	{1<<31 - 1, 1 << 31, 4},
	{math.MaxUint64 / 17, 1, 17},
	{math.MaxUint64 / 257 / 65537, 65537, 257},
	{1<<53 - 1, 1, 2048},
	{1<<26 - 1, 1 << 26, 4096},
	{math.MaxUint64 / 4095, 1, 4095},
}

func TestGreatestSumsBelowTheLimit(t *testing.T) {
	for _, x := range atTheLimit {
		for _, more := range []int{0, 1, 7} {
			for _, numbers := range [][2]uint64{{x.a, x.b}, {x.b, x.a}} {
				p, l := filled(x.n, numbers[0]), filled(x.n+more, numbers[1])
				want := filled(more+1, x.a*x.b*uint64(x.n))
				for _, size := range sizes {
					if size < x.n {
						continue
					}
					checkError(t, p, l, size, api.OK)
					checkSums(t, "P5.3, R4", p, l, size, want)
				}
			}
		}
	}
}

// overTheLimit are such numbers whose product is just 2^64, or more.
var overTheLimit = []struct {
	a, b uint64
	n    int
}{
	{1 << 32, 1 << 32, 1},
	{1 << 63, 2, 1},
	{math.MaxUint64, 2, 1},
	{math.MaxUint64, math.MaxUint64, 1},
	{math.MaxUint64, math.MaxUint64, 2},
	{1 << 63, 1, 2},
	{1 << 32, 1 << 31, 2},
	{1 << 62, 1 << 2, 2},
	{math.MaxUint64/3 + 1, 1, 3},
	{1 << 31, 1 << 31, 4},
	{1 << 40, 1 << 40, 4},
	{1 << 33, 1 << 31, 5},
	{math.MaxUint64/257 + 1, 1, 257},
	{1 << 53, 1, 2048},
	{1 << 26, 1 << 26, 4096},
}

func TestCheckOfNumbersThatAreTooBig(t *testing.T) {
	for _, x := range overTheLimit {
		for _, more := range []int{0, 1, 900} {
			for _, at := range []int{0, x.n / 2, x.n - 1} {
				n := x.n + more
				// Zeros about the greatest keep the sums small: they are refused none the less.
				for _, r := range [][2][]uint64{{only(x.n, at, x.a), only(n, n-1-at, x.b)}, {only(x.n, at, x.b), only(n, n-1, x.a)}, {filled(x.n, x.a), filled(n, x.b)}} {
					for _, size := range sizes {
						if size >= x.n {
							checkError(t, r[0], r[1], size, api.ErrConvBig)
						}
					}
				}
			}
		}
	}
}

func TestCheckCountsTheNumbersOfP(t *testing.T) {
	// The row that p is slid along may have any number of the greatest.
	for _, n := range []int{1, 2, 3, 4096, 5000} {
		checkError(t, []uint64{1 << 32}, filled(n, 1<<32-1), 4, api.OK)
		checkError(t, []uint64{1}, filled(n, math.MaxUint64), 4096, api.OK)
		checkError(t, []uint64{math.MaxUint64}, filled(n, 1), 1, api.OK)
	}
	checkSums(t, "P5.3", []uint64{1}, filled(5000, math.MaxUint64), 64, filled(5000, math.MaxUint64))
}

func TestZerosBesideTheGreatest(t *testing.T) {
	for _, n := range []int{1, 2, 3, 64, 1000} {
		for _, m := range []int{1, 2, 3, 64, 1000} {
			for _, size := range []int{m, 64, 1024, 4096} {
				for _, r := range [][2][]uint64{{make([]uint64, m), filled(n, math.MaxUint64)}, {filled(m, math.MaxUint64), make([]uint64, n)}} {
					want := refusal(r[0], r[1], size)
					checkError(t, r[0], r[1], size, want)
					if want == api.OK {
						checkSums(t, "P5.3", r[0], r[1], size, make([]uint64, max(0, n-m+1)))
					}
				}
			}
		}
	}
}

func TestCheckNamesTheSizeFirst(t *testing.T) {
	greatest := filled(9, math.MaxUint64)
	for _, size := range noSizes {
		checkError(t, greatest[:5], greatest, size, api.ErrBlockSize)
	}
	for _, size := range []int{1, 2, 4} {
		checkError(t, greatest[:5], greatest, size, api.ErrBlockSize)
	}
	checkError(t, greatest[:5], greatest, 8, api.ErrConvBig)
	checkError(t, filled(4097, math.MaxUint64), filled(4097, math.MaxUint64), 4096, api.ErrBlockSize)
}

func TestCountOfWhatCannotBeSlid(t *testing.T) {
	for _, size := range append(noSizes, sizes...) {
		for _, x := range [][2]int{{0, 0}, {0, 5}, {-1, 5}, {-1, -1}, {-5, -1}, {math.MinInt, math.MaxInt}, {math.MinInt, math.MinInt}, {1, 0}, {1, -1}, {2, 1}, {6, 5}, {4096, 4095}, {4097, 4096}, {5, math.MinInt}, {math.MaxInt, 5}, {math.MaxInt, math.MaxInt}, {math.MaxInt - 1, math.MaxInt}, {1<<40 + 1, 1<<40 + 1}} {
			if count := Count(x[0], x[1], size); count != 0 {
				t.Errorf("P5.2: Count(%d, %d, %d) is %d", x[0], x[1], size, count)
			}
		}
	}
}

func TestCountOfSizesThatAreNone(t *testing.T) {
	for _, n := range []int{1, 2, 3, 100, 4096, 5000, 1 << 40, math.MaxInt} {
		for _, m := range []int{1, 2, 3, 64, 4095, 4096, 4097, 5000} {
			for _, size := range noSizes {
				if count := Count(m, n, size); count != 0 {
					t.Errorf("P5.2: Count(%d, %d, %d) is %d", m, n, size, count)
				}
			}
			for _, size := range sizes {
				if count := Count(m, n, size); (count != 0) != (m <= n && m <= size) {
					t.Errorf("P5.2: Count(%d, %d, %d) is %d", m, n, size, count)
				}
			}
		}
	}
}

func TestCountAtTheLastBlock(t *testing.T) {
	for _, size := range sizes {
		for _, m := range []int{1, 2, 3, size / 2, size - 1, size} {
			if m < 1 || m > size {
				continue
			}
			each := size - m + 1
			for full := 1; full < 6; full++ {
				n := m - 1 + full*each
				if count := Count(m, n, size); count != 3+6*full {
					t.Errorf("P5.2: Count(%d, %d, %d) is %d, where %d blocks are full", m, n, size, count, full)
				}
				if count := Count(m, n+1, size); count != 9+6*full {
					t.Errorf("P5.2: Count(%d, %d, %d) is %d, where block %d has one sum", m, n+1, size, count, full)
				}
				if count := Count(m, n-1, size); each > 1 && count != 3+6*full {
					t.Errorf("P5.2: Count(%d, %d, %d) is %d, where the last block of %d lacks one", m, n-1, size, count, full)
				}
			}
			for n := m; n <= size; n++ {
				if count := Count(m, n, size); count != 9 {
					t.Errorf("P5.2: Count(%d, %d, %d) is %d, where one block is enough", m, n, size, count)
				}
			}
		}
	}
}

func TestCountBlockByBlock(t *testing.T) {
	for _, size := range []int{-1, 0, 1, 2, 3, 4, 8, 16, 24, 32, 4096, 8192} {
		for m := -2; m < 36; m++ {
			for n := -2; n < 130; n++ {
				if count, want := Count(m, n, size), countOf(m, n, size); count != want {
					t.Errorf("P5.2: Count(%d, %d, %d) is %d, not %d", m, n, size, count, want)
				}
			}
		}
	}
}

func TestCountOfTheLongestRows(t *testing.T) {
	const most = 1 << 40
	for _, x := range []struct{ m, size, count int }{
		{1, 1, 3 + 6*most},
		{2, 2, 3 + 6*(most-1)},
		{1, 4096, 3 + 6*most/4096},
		{2, 4096, 3 + 6*268501009}, // 2^40 - 1 sums: 268501008 blocks of 4095, and 15 left
		{3, 4, 3 + 6*(most/2-1)},
		{4096, 4096, 3 + 6*(most-4095)},
		{4095, 4096, 3 + 6*(most/2-2047)},
	} {
		for _, n := range []int{most, most + 1, most + 4096, 1 << 41, 1 << 60, math.MaxInt - 1, math.MaxInt} {
			if count := Count(x.m, n, x.size); count != x.count {
				t.Errorf("P5.2: Count(%d, %d, %d) is %d, not %d", x.m, n, x.size, count, x.count)
			}
		}
	}
	if below, at := Count(1, most-1, 1), Count(1, most, 1); below != 6*most-3 || at != below+6 {
		t.Errorf("P5.2: Count is %d of 2^40 - 1 numbers, and %d of 2^40", below, at)
	}
}

// fitOf tells the size whose cost, as a big number, is least, and how many sizes have that cost.
func fitOf(m, n int) (int, int) {
	best, ties, least := 0, 0, new(big.Int)
	for log, size := range sizes {
		if m < 1 || m > n || size < m {
			continue
		}
		each := big.NewInt(int64(size - m + 1))
		cost := big.NewInt(int64(min(n, 1<<40) - m + 1))
		cost.Add(cost, each).Sub(cost, big.NewInt(1)).Div(cost, each)
		cost.Mul(cost, big.NewInt(6)).Add(cost, big.NewInt(3)).Mul(cost, big.NewInt(int64(size*(log+1))))
		switch order := cost.Cmp(least); {
		case best == 0 || order < 0:
			best, ties, least = size, 1, cost
		case order == 0:
			ties++
		}
	}
	return best, ties
}

func TestFitOfWhatCannotBeSlid(t *testing.T) {
	for _, x := range [][2]int{{0, 0}, {0, 5}, {-1, 5}, {-1, -1}, {math.MinInt, math.MaxInt}, {1, 0}, {1, -1}, {6, 5}, {4096, 4095}, {4097, 4096}, {4097, 4097}, {4097, 5000}, {4097, math.MaxInt}, {math.MaxInt, 5}, {math.MaxInt, math.MaxInt}, {1, math.MinInt}} {
		if size := Fit(x[0], x[1]); size != 0 {
			t.Errorf("P5.2: Fit(%d, %d) is %d", x[0], x[1], size)
		}
	}
}

func TestFitAgainstAllSizes(t *testing.T) {
	for _, m := range []int{1, 2, 3, 4, 5, 7, 8, 9, 10, 11, 15, 16, 17, 31, 32, 33, 63, 64, 65, 100, 500, 1024, 2047, 2048, 2049, 4095, 4096} {
		lengths := []int{5000, 10000, 65536, 100000, 1 << 31, 1<<40 - 1, 1 << 40, 1<<40 + 1, 1 << 60, math.MaxInt}
		for more := -2; more < 200; more++ {
			lengths = append(lengths, m+more)
		}
		for _, n := range lengths {
			if want, _ := fitOf(m, n); Fit(m, n) != want {
				t.Errorf("P5.2: Fit(%d, %d) is %d, not %d", m, n, Fit(m, n), want)
			}
		}
	}
	for _, n := range []int{1, 2, 100, 4096, 5000, math.MaxInt} {
		if size := Fit(1, n); size != 1 {
			t.Errorf("P5.2: Fit(1, %d) is %d", n, size)
		}
	}
	for _, n := range []int{4096, 4097, 100000, math.MaxInt} {
		if size := Fit(4096, n); size != 4096 {
			t.Errorf("P5.2: Fit(4096, %d) is %d", n, size)
		}
	}
}

func TestFitTellsTheLeastOfTies(t *testing.T) {
	for _, x := range [][3]int{{8, 233, 32}, {8, 235, 32}, {9, 225, 32}, {10, 59, 32}, {10, 64, 32}, {10, 217, 32}, {11, 55, 32}, {11, 63, 32}} {
		if want, ties := fitOf(x[0], x[1]); ties < 2 || want != x[2] {
			t.Errorf("the sample %d is no tie", x)
		}
		if size := Fit(x[0], x[1]); size != x[2] {
			t.Errorf("P5.2: Fit(%d, %d) is %d, not %d", x[0], x[1], size, x[2])
		}
	}
	found := 0
	for m := 1; m < 40; m++ {
		for n := m; n < 400; n++ {
			want, ties := fitOf(m, n)
			if ties > 1 {
				found++
			}
			if Fit(m, n) != want {
				t.Errorf("P5.2: Fit(%d, %d) is %d, not %d", m, n, Fit(m, n), want)
			}
		}
	}
	if found < 100 {
		t.Errorf("there are but %d ties among the samples", found)
	}
}

func TestCorrelateOfFewNumbers(t *testing.T) {
	for m := range 11 {
		for n := range 27 {
			for _, width := range []int{1, 8, 30} {
				p, l := ordinary(m, m, width), ordinary(n+50, n, width)
				want := slideOfBig(t, p, l)
				for _, size := range []int{1, 2, 4, 8, 16, 32, 64} {
					if wrong := refusal(p, l, size); wrong != api.OK {
						checkError(t, p, l, size, wrong)
						continue
					}
					checkSums(t, "P5.3", p, l, size, want)
				}
			}
		}
	}
}

func TestCorrelateAtTheLastBlock(t *testing.T) {
	for _, size := range []int{1, 2, 4, 8, 64, 256} {
		for _, m := range []int{1, 2, 3, size / 2, size/2 + 1, size - 1, size} {
			if m < 1 || m > size {
				continue
			}
			each := size - m + 1
			for full := 1; full < 4; full++ {
				// The last block is full, lacks one, or has one sum.
				for _, n := range []int{m - 1 + full*each, m - 2 + full*each, m + full*each} {
					p, l := ordinary(m, m, 27), ordinary(n, n, 27)
					checkSums(t, "P5.3", p, l, size, slideOfBig(t, p, l))
				}
			}
		}
	}
}

func TestCorrelateOfLongRows(t *testing.T) {
	for _, x := range []struct{ m, n, size int }{
		{1, 3000, 1}, {1, 5000, 4}, {1, 5000, 4096}, {2, 7000, 8}, {2, 3000, 2}, {3, 5000, 64}, {64, 3000, 64}, {64, 9000, 128}, {64, 9000, 4096},
		{65, 9001, 256}, {500, 5000, 512}, {1000, 9000, 4096}, {1024, 1100, 1024}, {2048, 6000, 4096}, {4095, 4200, 4096}, {4096, 4100, 4096}, {3000, 3000, 4096},
	} {
		p, l := ordinary(x.m, x.m, 25), ordinary(x.n, x.n, 25)
		checkSums(t, "P5.3", p, l, x.size, slideOf(p, l))
	}
}

func TestCorrelateOfSizeJustTheNumberOfP(t *testing.T) {
	for _, size := range []int{1, 2, 4, 16, 128} {
		for _, n := range []int{size, size + 1, 2 * size, 3*size + 1} {
			p, l := ordinary(size, size, 28), ordinary(n, n, 28)
			checkSums(t, "P5.3", p, l, size, slideOfBig(t, p, l))
			if size > 1 {
				checkError(t, p, l, size/2, api.ErrBlockSize)
			}
		}
	}
}

func TestCorrelateIsThatOfConv(t *testing.T) {
	for _, x := range [][2]int{{0, 0}, {0, 9}, {1, 1}, {9, 8}, {9, 9}, {1, 4096}, {7, 4090}, {64, 4000}, {1000, 3097}, {2048, 2049}} {
		p, l := ordinary(1, x[0], 26), ordinary(2, x[1], 26)
		want, errno := conv.Correlate(p, l)
		if errno != api.OK {
			t.Fatalf("conv.Correlate of %d numbers tells error %d", x, errno)
		}
		for _, size := range sizes {
			if size >= x[0] && size >= 32 {
				checkSums(t, "P5.3", p, l, size, want)
			}
		}
	}
}

func TestCorrelateOfNumbersAboveThePrimes(t *testing.T) {
	for _, prime := range []uint64{998244353, 167772161, 469762049} {
		edges := []uint64{prime - 1, prime, prime + 1, 2*prime - 1, 2 * prime, 0, 1, prime, prime, prime}
		for _, size := range []int{4, 8, 16, 4096} {
			p := []uint64{prime - 1, prime, prime + 1}
			checkSums(t, "P5.3", p, edges, size, slideOfBig(t, p, edges))
			p = []uint64{prime * prime, prime*prime + 1, prime*prime - 1}
			checkSums(t, "P5.3", p, []uint64{1, 3, 2, 0, 1, 4, 1}, size, slideOfBig(t, p, []uint64{1, 3, 2, 0, 1, 4, 1}))
		}
	}
}

func TestErrorsOfCorrelateAreThoseOfCheck(t *testing.T) {
	for _, m := range []int{0, 1, 2, 5, 8, 9, 70} {
		for _, n := range []int{0, 1, 2, 8, 9, 64, 70, 71} {
			for _, number := range []uint64{0, 1, 1 << 28, 1 << 30, 1 << 31, 1<<32 - 1, 1 << 32, math.MaxUint64} {
				for _, size := range []int{-8, 0, 1, 2, 7, 8, 12, 64, 100, 128, 4096, 8192} {
					p, l := filled(m, number), filled(n, number)
					checkError(t, p, l, size, refusal(p, l, size))
				}
			}
		}
	}
}

func TestWhatIsToldHangsNotOnTheSize(t *testing.T) {
	for _, x := range [][2]int{{1, 700}, {2, 700}, {3, 1500}, {31, 1000}, {64, 2500}, {100, 1200}, {1000, 3000}} {
		p, l := ordinary(3, x[0], 26), ordinary(4, x[1], 26)
		first, _, errno := Correlate(p, l, 4096)
		if errno != api.OK || len(first) != x[1]-x[0]+1 {
			t.Errorf("P5.4: Correlate of %d numbers tells %d sums, error %d", x, len(first), errno)
		}
		for _, size := range sizes {
			if size < x[0] {
				continue
			}
			if got, _, errno := Correlate(p, l, size); errno != api.OK || !slices.Equal(got, first) {
				t.Errorf("P5.4: Correlate of %d numbers in blocks of %d tells others than in blocks of 4096, or error %d", x, size, errno)
			}
		}
	}
}

func TestLongerRowHasTheSumsOfTheShorterOneAhead(t *testing.T) {
	for _, m := range []int{1, 3, 8, 20} {
		p, l := ordinary(5, m, 28), ordinary(6, 200, 28)
		for _, size := range []int{32, 64, 256} {
			all, _, _ := Correlate(p, l, size)
			for n := range len(l) + 1 {
				got, _, errno := Correlate(p, l[:n], size)
				if want := max(0, n-m+1); errno != api.OK || len(got) != want || !slices.Equal(got, all[:want]) {
					t.Errorf("P5.4: Correlate of %d and the first %d numbers in blocks of %d is not ahead of the whole row's, or tells error %d", m, n, size, errno)
				}
			}
		}
	}
}

func TestBlocksAreAsManyAsCounted(t *testing.T) {
	for _, size := range []int{1, 2, 8, 32} {
		for m := 1; m <= size; m++ {
			for n := range 100 {
				given, next := 0, 0
				for start, told := range blocks(m, n, size) {
					if start != next || told < 1 || told > size-m+1 {
						t.Errorf("P5.2: block %d of %d, %d, %d begins at %d, and tells %d sums", given, m, n, size, start, told)
					}
					given, next = given+1, start+told
				}
				if want := countOf(m, n, size); given > 0 && 3+6*given != want || given == 0 && want != 0 {
					t.Errorf("P5.2: there are %d blocks of %d, %d, %d, but %d transforms", given, m, n, size, want)
				}
				if want := max(0, n-m+1); next != want {
					t.Errorf("P5.2: the blocks of %d, %d, %d tell %d sums, not %d", m, n, size, next, want)
				}
			}
		}
	}
	for start := range blocks(1, 100, 1) {
		if start == 3 {
			break
		}
	}
}

func TestWhatIsGivenStays(t *testing.T) {
	for _, width := range []int{20, 64} {
		// Parts of longer rows: nothing may be written behind them, either.
		a, b := ordinary(1, 20, width), ordinary(2, 90, width)
		first, second := slices.Clone(a), slices.Clone(b)
		for _, size := range []int{0, 4, 16, 64, 4096} {
			for _, r := range [][2][]uint64{{a[:9], b[:30]}, {a[3:4], b[7:39]}, {b[:30], a[:9]}, {a, a}, {a[:16], a[2:]}, {a[:4], b}, {a[:16], b[:16]}} {
				Check(r[0], r[1], size)
				Correlate(r[0], r[1], size)
			}
		}
		if !slices.Equal(a, first) || !slices.Equal(b, second) {
			t.Error("R5: Correlate or Check has changed what it was given")
		}
	}
}

func TestWhatIsToldIsTheCallersOwn(t *testing.T) {
	for _, given := range [][]uint64{{1}, {1, 0}, {2, 1, 3}} {
		for _, size := range []int{4, 8, 64} {
			p, l := slices.Clone(given), []uint64{4, 5, 6, 7, 8, 9}
			first, _, _ := Correlate(p, l, size)
			second, _, _ := Correlate(p, l, size)
			kept := slices.Clone(second)
			for i := range first[:cap(first)] {
				first[:cap(first)][i] = 99
			}
			if !slices.Equal(second, kept) || !slices.Equal(p, given) || !slices.Equal(l, []uint64{4, 5, 6, 7, 8, 9}) {
				t.Errorf("R6: writing into what Correlate told has changed %d, %d or %d", second, p, l)
			}
			p[0], l[0], l[5] = 97, 97, 97
			if !slices.Equal(second, kept) {
				t.Error("R6: writing into what Correlate was given has changed what it told")
			}
		}
	}
}

func TestSameCallsTellTheSame(t *testing.T) {
	for _, width := range []int{8, 28, 64} {
		p, l := ordinary(1, 30, width), ordinary(2, 500, width)
		first, count, errno := Correlate(p, l, 64)
		Correlate(l, l, 512)
		second, again, other := Correlate(p, l, 64)
		if errno != other || count != again || !slices.Equal(first, second) {
			t.Error("R7: Correlate tells one thing in two ways")
		}
	}
}

func TestExamples(t *testing.T) {
	if got, count, errno := Correlate([]uint64{1, 2}, []uint64{3, 4, 5}, 2); errno != api.OK || count != 15 || !slices.Equal(got, []uint64{11, 14}) {
		t.Errorf("P5.3: Correlate(1 2, 3 4 5, 2) is %d, %d, error %d", got, count, errno)
	}
	if count := Count(2, 3, 4); count != 9 {
		t.Errorf("P5.2: Count(2, 3, 4) is %d", count)
	}
	if count := Count(2, 3, 1); count != 0 {
		t.Errorf("P5.2: Count(2, 3, 1) is %d", count)
	}
}
