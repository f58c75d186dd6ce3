package ntt

import (
	"math"
	"math/big"
	"slices"
	"testing"

	"beagle/api"
)

var primes = [3]uint64{998244353, 167772161, 469762049}

var noPrimes = []int{-1, 3, 4, -3, 1 << 32, math.MaxInt, math.MinInt}

// noLengths are numbers of numbers that have no Log, up to more than MaxSize.
var noLengths = []int{0, 3, 5, 6, 7, 9, 63, 65, 1000, 4095, 4097, 6144, 8192}

// transforms are the calls of one row, told apart by whether their root is inverted.
var transforms = []struct {
	name string
	call func(k int, l []uint64) ([]uint64, api.Errno)
	sums func(k int, l []uint64) []uint64
}{
	{"Forward", Forward, forwardSums},
	{"Inverse", Inverse, inverseSums},
}

// powerOf tells a to the n modulo p, by another way than the program's.
func powerOf(a, n, p uint64) uint64 {
	whole := func(x uint64) *big.Int { return new(big.Int).SetUint64(x) }
	return new(big.Int).Exp(whole(a), whole(n), whole(p)).Uint64()
}

// sumsOf tells the sums as the chapter words them: no halves, no transform.
func sumsOf(l []uint64, root, p uint64) []uint64 {
	n := len(l)
	powers := make([]uint64, n)
	for i := range powers {
		powers[i] = 1
		if i > 0 {
			powers[i] = powers[i-1] * root % p
		}
	}
	l = reducedBy(p, l)
	sums := make([]uint64, n)
	for j := range sums {
		at := 0 // i times j, whole rounds of the powers left out
		for _, x := range l {
			sums[j] = (sums[j] + x*powers[at]) % p
			at += j
			if at >= n {
				at -= n
			}
		}
	}
	return sums
}

func rootOf(k, n int) uint64 {
	return powerOf(3, (primes[k]-1)/uint64(n), primes[k])
}

func forwardSums(k int, l []uint64) []uint64 {
	return sumsOf(l, rootOf(k, len(l)), primes[k])
}

func inverseSums(k int, l []uint64) []uint64 {
	p := primes[k]
	sums := sumsOf(l, powerOf(rootOf(k, len(l)), p-2, p), p)
	part := powerOf(uint64(len(l)), p-2, p)
	for j := range sums {
		sums[j] = sums[j] * part % p
	}
	return sums
}

func cyclicSums(k int, a, b []uint64) []uint64 {
	p, n := primes[k], len(a)
	a, b = reducedBy(p, a), reducedBy(p, b)
	sums := make([]uint64, n)
	for i := range a {
		for j := range b {
			at := i + j
			if at >= n {
				at -= n
			}
			sums[at] = (sums[at] + a[i]*b[j]) % p
		}
	}
	return sums
}

// numbers tells n numbers of the whole 64 bits, always the same ones for one seed.
func numbers(n int, seed uint64) []uint64 {
	x := seed*0x9e3779b97f4a7c15 + 88172645463325252
	l := make([]uint64, n)
	for i := range l {
		x ^= x << 13
		x ^= x >> 7
		x ^= x << 17
		l[i] = x
	}
	return l
}

// rows are rows of n numbers: ordinary ones, and such as stand at the edges of prime k and of 64 bits.
func rows(k, n int) [][]uint64 {
	p := primes[k]
	edges := []uint64{p, p - 1, p + 1, 0, math.MaxUint64, 2*p - 1, 1, 2 * p, p * p, math.MaxUint64 / p * p, 1 << 63}
	small, edge, last := numbers(n, 1), make([]uint64, n), make([]uint64, n)
	for i := range n {
		small[i] %= 100
		edge[i] = edges[(i+k)%len(edges)]
	}
	last[n-1] = 5
	return [][]uint64{
		small, edge, last, numbers(n, 2),
		make([]uint64, n),
		slices.Repeat([]uint64{p - 1}, n),
		slices.Repeat([]uint64{math.MaxUint64}, n),
	}
}

// everySize calls check for each prime and each number of numbers that a transform has.
func everySize(check func(k, n int)) {
	for k := range primes {
		for n := 1; n <= api.MaxSize; n *= 2 {
			check(k, n)
		}
	}
}

func reducedBy(p uint64, l []uint64) []uint64 {
	r := slices.Clone(l)
	for i := range r {
		r[i] %= p
	}
	return r
}

// must tells what a call told, which is to be no error.
func must(t *testing.T, what string) func(l []uint64, errno api.Errno) []uint64 {
	return func(l []uint64, errno api.Errno) []uint64 {
		t.Helper()
		if errno != api.OK {
			t.Fatalf("%s: error %d", what, errno)
		}
		return l
	}
}

func TestLog(t *testing.T) {
	logs := map[int]int{}
	for log := 0; log <= 12; log++ {
		logs[1<<log] = log
	}
	for n := -5000; n <= 20000; n++ {
		want, is := logs[n]
		if log, ok := Log(n); log != want || ok != is {
			t.Errorf("P2.1: Log(%d) is %d, %v, not %d, %v", n, log, ok, want, is)
		}
	}
	for _, n := range []int{1 << 15, 1 << 32, 1 << 62, 1<<32 + 1, 1<<32 + 4096, math.MaxInt, math.MinInt, -4096, -1 << 40} {
		if log, ok := Log(n); log != 0 || ok {
			t.Errorf("P2.1: Log(%d) is %d, %v", n, log, ok)
		}
	}
}

func TestTransformsAreTheSums(t *testing.T) {
	everySize(func(k, n int) {
		all := rows(k, n)
		if n > 512 {
			all = all[:2]
		}
		for i, l := range all {
			for _, c := range transforms {
				got, errno := c.call(k, l)
				if errno != api.OK || !slices.Equal(got, c.sums(k, l)) {
					t.Errorf("P2.2: %s(%d, row %d of %d numbers) tells other sums, error %d", c.name, k, i, n, errno)
				}
			}
		}
	})
}

func TestCyclicIsTheSums(t *testing.T) {
	everySize(func(k, n int) {
		all := rows(k, n)
		if n > 256 {
			all = all[:2]
		}
		for i, a := range all {
			for j, b := range all {
				got, errno := Cyclic(k, a, b)
				if errno != api.OK || !slices.Equal(got, cyclicSums(k, a, b)) {
					t.Errorf("P2.2: Cyclic(%d, rows %d and %d of %d numbers) tells other sums, error %d", k, i, j, n, errno)
				}
			}
		}
	})
}

func TestCyclicOfOneRowTwice(t *testing.T) {
	l := []uint64{3, 1, 4, 1}
	if got, errno := Cyclic(1, l, l); errno != api.OK || !slices.Equal(got, cyclicSums(1, l, l)) {
		t.Errorf("P2.2: Cyclic of one row twice is %v, error %d", got, errno)
	}
}

func TestNoPrimeIsNamedFirst(t *testing.T) {
	lengths := append([]int{1, 2, 64, api.MaxSize}, noLengths...)
	for _, k := range noPrimes {
		for _, n := range lengths {
			l := numbers(n, 3)
			for _, c := range transforms {
				if got, errno := c.call(k, l); errno != api.ErrNttPrime || len(got) != 0 {
					t.Errorf("P2.2: %s(%d, %d numbers): error %d, beside %d numbers", c.name, k, n, errno, len(got))
				}
			}
			for _, b := range [][]uint64{l, numbers(n+1, 4), nil} {
				if got, errno := Cyclic(k, l, b); errno != api.ErrNttPrime || len(got) != 0 {
					t.Errorf("P2.2: Cyclic(%d, %d and %d numbers): error %d, beside %d numbers", k, n, len(b), errno, len(got))
				}
			}
		}
	}
}

func TestWrongLengths(t *testing.T) {
	for k := range primes {
		for _, n := range noLengths {
			l := numbers(n, 5)
			for _, c := range transforms {
				if got, errno := c.call(k, l); errno != api.ErrNttLength || len(got) != 0 {
					t.Errorf("P2.2: %s(%d, %d numbers): error %d, beside %d numbers", c.name, k, n, errno, len(got))
				}
			}
			for _, m := range []int{n, 0, 1, 4, api.MaxSize} {
				wantCyclicLength(t, k, n, m)
				wantCyclicLength(t, k, m, n)
			}
		}
		if got, errno := Forward(k, nil); errno != api.ErrNttLength || got != nil {
			t.Errorf("P2.2: Forward(%d, none): error %d, beside %d numbers", k, errno, len(got))
		}
	}
}

func TestCyclicOfOtherNumbers(t *testing.T) {
	for k := range primes {
		for n := 1; n <= api.MaxSize; n *= 2 {
			for _, m := range []int{0, n - 1, n + 1, n / 2, 2 * n, api.MaxSize + 1} {
				wantCyclicLength(t, k, n, m)
			}
		}
	}
}

func wantCyclicLength(t *testing.T, k, n, m int) {
	t.Helper()
	if got, errno := Cyclic(k, numbers(n, 6), numbers(m, 7)); errno != api.ErrNttLength || len(got) != 0 {
		t.Errorf("P2.2: Cyclic(%d, %d and %d numbers): error %d, beside %d numbers", k, n, m, errno, len(got))
	}
}

func TestThereAndBack(t *testing.T) {
	everySize(func(k, n int) {
		for i, l := range rows(k, n) {
			want := reducedBy(primes[k], l)
			there := must(t, "P2.3")(Forward(k, l))
			if got := must(t, "P2.3")(Inverse(k, there)); !slices.Equal(got, want) {
				t.Errorf("P2.3: k %d: Inverse of Forward of row %d of %d numbers is another", k, i, n)
			}
			back := must(t, "P2.3")(Inverse(k, l))
			if got := must(t, "P2.3")(Forward(k, back)); !slices.Equal(got, want) {
				t.Errorf("P2.3: k %d: Forward of Inverse of row %d of %d numbers is another", k, i, n)
			}
		}
	})
}

func TestForwardOfCyclicAndOfSum(t *testing.T) {
	everySize(func(k, n int) {
		p, a, b := primes[k], numbers(n, 8), numbers(n, 9)
		products, sums, sum := make([]uint64, n), make([]uint64, n), make([]uint64, n)
		fa, fb := must(t, "P2.3")(Forward(k, a)), must(t, "P2.3")(Forward(k, b))
		for i := range n {
			products[i] = fa[i] * fb[i] % p
			sums[i] = (fa[i] + fb[i]) % p
			sum[i] = a[i]%p + b[i]%p
		}
		cyclic := must(t, "P2.3")(Cyclic(k, a, b))
		if got := must(t, "P2.3")(Forward(k, cyclic)); !slices.Equal(got, products) {
			t.Errorf("P2.3: k %d: Forward of a Cyclic of %d numbers is not the product of the Forwards", k, n)
		}
		if got := must(t, "P2.3")(Forward(k, sum)); !slices.Equal(got, sums) {
			t.Errorf("P2.3: k %d: Forward of a sum of %d numbers is not the sum of the Forwards", k, n)
		}
	})
}

func TestGivenRowsStay(t *testing.T) {
	everySize(func(k, n int) {
		// The rows are cut from longer ones, so that a write behind their ends is seen too.
		a, b := numbers(n+8, 10), numbers(n+8, 11)
		oldA, oldB := slices.Clone(a), slices.Clone(b)
		Forward(k, a[:n])
		Inverse(k, a[:n])
		Cyclic(k, a[:n], b[:n])
		Cyclic(k, a[:n], b[:n+1])
		if !slices.Equal(a, oldA) || !slices.Equal(b, oldB) {
			t.Errorf("R5: k %d: what was given, of %d numbers, has changed", k, n)
		}
	})
}

func TestAnswersAreTheCallersOwn(t *testing.T) {
	everySize(func(k, n int) {
		a, b := numbers(n, 12), numbers(n, 13)
		oldA, oldB := slices.Clone(a), slices.Clone(b)
		for _, call := range []func() ([]uint64, api.Errno){
			func() ([]uint64, api.Errno) { return Forward(k, a) },
			func() ([]uint64, api.Errno) { return Inverse(k, a) },
			func() ([]uint64, api.Errno) { return Cyclic(k, a, b) },
		} {
			first := must(t, "R6")(call())
			second := must(t, "R6")(call())
			want := slices.Clone(first)
			if !slices.Equal(second, want) {
				t.Errorf("R7: k %d: the same call of %d numbers tells another row", k, n)
			}
			spoil(first)
			if !slices.Equal(second, want) || !slices.Equal(must(t, "R6")(call()), want) {
				t.Errorf("R6: k %d: writing into an answer of %d numbers changes another", k, n)
			}
			if !slices.Equal(a, oldA) || !slices.Equal(b, oldB) {
				t.Errorf("R6: k %d: writing into an answer of %d numbers changes what was given", k, n)
			}
		}
	})
}

// spoil writes over all that a row reaches, its capacity too.
func spoil(l []uint64) {
	l = l[:cap(l)]
	for i := range l {
		l[i] = math.MaxUint64
	}
}

func TestExamples(t *testing.T) {
	there := must(t, "Forward(0, 1 2)")(Forward(0, []uint64{1, 2}))
	if !slices.Equal(there, []uint64{3, 998244352}) {
		t.Errorf("Forward(0, 1 2) is %v", there)
	}
	if back := must(t, "Inverse of that")(Inverse(0, there)); !slices.Equal(back, []uint64{1, 2}) {
		t.Errorf("Inverse of Forward(0, 1 2) is %v", back)
	}
	if got := must(t, "Cyclic(0, 1 2, 3 4)")(Cyclic(0, []uint64{1, 2}, []uint64{3, 4})); !slices.Equal(got, []uint64{11, 10}) {
		t.Errorf("Cyclic(0, 1 2, 3 4) is %v", got)
	}
}
