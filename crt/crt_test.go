package crt

import (
	"math"
	"math/big"
	"slices"
	"testing"
)

var primes = [3]uint64{998244353, 167772161, 469762049}

func whole(a uint64) *big.Int { return new(big.Int).SetUint64(a) }

// productOf tells the product of the first n primes.
func productOf(n int) *big.Int {
	product := big.NewInt(1)
	for _, p := range primes[:n] {
		product.Mul(product, whole(p))
	}
	return product
}

// exactOf tells the number below the product of the primes whose residues are z: for each prime a number that is 1 modulo it and 0 modulo the others, by another way than the program's.
func exactOf(z [3]uint64) *big.Int {
	all, sum := productOf(3), new(big.Int)
	for k, p := range primes {
		others := new(big.Int).Div(all, whole(p))
		one := new(big.Int).ModInverse(others, whole(p))
		one.Mul(one, others)
		sum.Add(sum, one.Mul(one, whole(z[k])))
	}
	return sum.Mod(sum, all)
}

// digitsOfExact tells the digits of n by dividing.
func digitsOfExact(n *big.Int) [3]uint64 {
	var d [3]uint64
	rest := new(big.Int).Set(n)
	for k, p := range primes {
		digit := new(big.Int)
		rest.DivMod(rest, whole(p), digit)
		d[k] = digit.Uint64()
	}
	return d
}

// residuesOf tells the residues of n by dividing.
func residuesOf(n *big.Int) [3]uint64 {
	var z [3]uint64
	for k, p := range primes {
		z[k] = new(big.Int).Mod(n, whole(p)).Uint64()
	}
	return z
}

// ordinary are numbers that are always the same ones.
func ordinary(n int) []uint64 {
	x := uint64(88172645463325252)
	l := make([]uint64, n)
	for i := range l {
		x ^= x << 13
		x ^= x >> 7
		x ^= x << 17
		l[i] = x >> (i % 64)
	}
	return l
}

// numbers are the edges of 64 bits, of the primes and of their products, and ordinary ones.
func numbers() []uint64 {
	l := []uint64{0, 1, 2, 1 << 32, 1 << 63, 1<<63 - 1, math.MaxUint64 - 1, math.MaxUint64}
	for k, p := range primes {
		q := primes[(k+1)%3]
		l = append(l, p-1, p, p+1, 2*p, p*p-1, p*p, p*q-1, p*q, p*q+1, math.MaxUint64/p*p, math.MaxUint64/(p*q)*(p*q))
	}
	return append(l, ordinary(500)...)
}

// residues are triples of edges, below the primes, at them and above, and ordinary ones, most of which have no Join.
func residues() [][3]uint64 {
	edges := func(p uint64) []uint64 {
		return []uint64{0, 1, 2, p - 1, p, p + 1, 2*p - 1, 3 * p, math.MaxUint64/p*p - 1, math.MaxUint64 / p * p, math.MaxUint64 - 1, math.MaxUint64}
	}
	var l [][3]uint64
	for _, a := range edges(primes[0]) {
		for _, b := range edges(primes[1]) {
			for _, c := range edges(primes[2]) {
				l = append(l, [3]uint64{a, b, c})
			}
		}
	}
	x := ordinary(1500)
	for i := 0; i < len(x); i += 3 {
		l = append(l, [3]uint64{x[i], x[i+1], x[i+2]})
	}
	return l
}

// aboutLimit are numbers close about 2^64, and those whose digits are edges about it.
func aboutLimit() []*big.Int {
	limit := new(big.Int).Lsh(big.NewInt(1), 64)
	var l []*big.Int
	for _, step := range []*big.Int{big.NewInt(1), big.NewInt(2), big.NewInt(1000), whole(primes[0]), productOf(2), new(big.Int).Rsh(limit, 1)} {
		l = append(l, new(big.Int).Sub(limit, step), new(big.Int).Add(limit, step))
	}
	last := new(big.Int).Sub(productOf(3), big.NewInt(1))
	return append(l, limit, new(big.Int).Lsh(limit, 1), new(big.Int).Lsh(limit, 10), last)
}

func TestParts(t *testing.T) {
	for _, n := range numbers() {
		if got, want := Parts(n), residuesOf(whole(n)); got != want {
			t.Errorf("P3.1: Parts(%d) is %d, not %d", n, got, want)
		}
	}
}

func TestMixed(t *testing.T) {
	for _, z := range residues() {
		d := Mixed(z)
		for k, p := range primes {
			if d[k] >= p {
				t.Errorf("P3.1: Mixed(%d) is %d: digit %d is not below its prime", z, d, k)
			}
		}
		sum := new(big.Int)
		for k := range primes {
			sum.Add(sum, new(big.Int).Mul(whole(d[k]), productOf(k)))
		}
		if got, want := residuesOf(sum), [3]uint64{z[0] % primes[0], z[1] % primes[1], z[2] % primes[2]}; got != want {
			t.Errorf("P3.1: Mixed(%d) is %d, whose residues are %d", z, d, got)
		}
		if want := digitsOfExact(exactOf(z)); d != want {
			t.Errorf("P3.1: Mixed(%d) is %d, not %d", z, d, want)
		}
	}
}

func TestMixedOfChosenDigits(t *testing.T) {
	var edges [3][]uint64
	for k, p := range primes {
		edges[k] = []uint64{0, 1, 7, p / 2, p - 2, p - 1}
	}
	for _, a := range edges[0] {
		for _, b := range edges[1] {
			for _, c := range edges[2] {
				want := [3]uint64{a, b, c}
				number := new(big.Int)
				for k, d := range want {
					number.Add(number, new(big.Int).Mul(whole(d), productOf(k)))
				}
				if got := Mixed(residuesOf(number)); got != want {
					t.Errorf("P3.1: Mixed of the residues of %v is %d, not %d", number, got, want)
				}
			}
		}
	}
}

func TestJoin(t *testing.T) {
	l := residues()
	for _, n := range aboutLimit() {
		l = append(l, residuesOf(n))
	}
	joined := 0
	for _, z := range l {
		want := exactOf(z)
		n, ok := Join(z)
		if want.IsUint64() {
			joined++
			if n != want.Uint64() || !ok {
				t.Errorf("P3.1: Join(%d) is %d, %v, not %v", z, n, ok, want)
			}
		} else if n != 0 || ok {
			t.Errorf("P3.1: Join(%d) is %d, %v, of %v", z, n, ok, want)
		}
	}
	if joined < 10 || joined > len(l)-10 {
		t.Errorf("%d of %d samples have a Join: too few of one kind", joined, len(l))
	}
}

func TestJoinAtItsLimit(t *testing.T) {
	last := Parts(math.MaxUint64)
	if n, ok := Join(last); n != math.MaxUint64 || !ok {
		t.Errorf("P3.1: Join of the residues of 2^64 - 1 is %d, %v", n, ok)
	}
	if n, ok := Join([3]uint64{last[0] + 1, last[1] + 1, last[2] + 1}); n != 0 || ok {
		t.Errorf("P3.1: Join of the residues of 2^64 is %d, %v", n, ok)
	}
	if n, ok := Join([3]uint64{}); n != 0 || !ok {
		t.Errorf("P3.1: Join of no residues but 0 is %d, %v", n, ok)
	}
	if n, ok := Join(primes); n != 0 || !ok {
		t.Errorf("P3.1: Join of the primes is %d, %v, not that of 0", n, ok)
	}
}

func TestJoinOfPartsIsTheNumber(t *testing.T) {
	for _, n := range numbers() {
		if m, ok := Join(Parts(n)); m != n || !ok {
			t.Errorf("P3.2: Join(Parts(%d)) is %d, %v", n, m, ok)
		}
		// Residues of 64 bits, whatever multiples of their primes are in them, are the same number's.
		z := Parts(n)
		for k, p := range primes {
			z[k] += (math.MaxUint64 - z[k]) / p * p
		}
		if m, ok := Join(z); m != n || !ok {
			t.Errorf("P3.1: Join(%d) is %d, %v, not %d", z, m, ok, n)
		}
	}
}

func TestPartsOfJoinAreTheResidues(t *testing.T) {
	for _, z := range residues() {
		n, ok := Join(z)
		if !ok {
			continue
		}
		for k, part := range Parts(n) {
			if part != z[k]%primes[k] {
				t.Errorf("P3.2: Parts(Join(%d)) have %d as residue %d", z, part, k)
			}
		}
	}
}

// rowsOf tells the residues of each number, prime by prime.
func rowsOf(l []uint64) (a, b, c []uint64) {
	for _, n := range l {
		a, b, c = append(a, n%primes[0]), append(b, n%primes[1]), append(c, n%primes[2])
	}
	return a, b, c
}

func TestRows(t *testing.T) {
	l := numbers()
	for n := range len(l) + 1 {
		a, b, c := rowsOf(l[:n])
		got, ok := Rows(a, b, c)
		if !ok || !slices.Equal(got, l[:n]) {
			t.Errorf("P3.1: Rows of the residues of the first %d numbers are %d, %v", n, got, ok)
		}
	}
	unreduced := []uint64{primes[0] * 5, math.MaxUint64}
	got, ok := Rows(unreduced[:1], []uint64{primes[1]}, []uint64{primes[2] * 2})
	if !ok || !slices.Equal(got, []uint64{0}) {
		t.Errorf("P3.1: Rows of multiples of the primes are %d, %v", got, ok)
	}
	got, ok = Rows(unreduced[1:], unreduced[1:], unreduced[1:])
	if !ok || !slices.Equal(got, []uint64{math.MaxUint64}) {
		t.Errorf("P3.1: Rows of 2^64 - 1 are %d, %v", got, ok)
	}
}

func TestRowsOfNone(t *testing.T) {
	for _, l := range [][]uint64{nil, {}} {
		if got, ok := Rows(l, nil, []uint64{}); len(got) != 0 || !ok {
			t.Errorf("P3.1, R3: Rows of no numbers are %d, %v", got, ok)
		}
	}
}

func TestRowsThatAreNotAsMany(t *testing.T) {
	for a := range 4 {
		for b := range 4 {
			for c := range 4 {
				got, ok := Rows(make([]uint64, a), make([]uint64, b), make([]uint64, c))
				if as := a == b && b == c; ok != as || as && len(got) != a || !as && len(got) != 0 {
					t.Errorf("P3.1: Rows of %d, %d and %d numbers are %d, %v", a, b, c, got, ok)
				}
			}
		}
	}
}

func TestRowsWithoutJoin(t *testing.T) {
	limit := residuesOf(new(big.Int).Lsh(big.NewInt(1), 64))
	greatest := [3]uint64{primes[0] - 1, primes[1] - 1, primes[2] - 1}
	for _, z := range [][3]uint64{limit, greatest} {
		for n := 1; n < 6; n++ {
			for at := range n {
				a, b, c := rowsOf(numbers()[:n])
				a[at], b[at], c[at] = z[0], z[1], z[2]
				if got, ok := Rows(a, b, c); len(got) != 0 || ok {
					t.Errorf("P3.1: Rows of %d numbers, of which place %d has no Join, are %d, %v", n, at, got, ok)
				}
			}
		}
	}
}

func TestWhatIsGivenStays(t *testing.T) {
	z := [3]uint64{math.MaxUint64, primes[1], primes[2] + 1}
	given := z
	Mixed(z)
	Join(z)
	if z != given {
		t.Errorf("R5: %d has become %d", given, z)
	}
	// One row of residues above their primes, as all three, and a part of a longer one.
	long := append(numbers(), math.MaxUint64, 1, 2)
	before := slices.Clone(long)
	row := long[:len(long)-3]
	Rows(row, row, row)
	Rows(row, row[1:], row)
	Rows(long, slices.Repeat([]uint64{primes[1] - 1}, len(long)), long)
	if !slices.Equal(long, before) {
		t.Error("R5: Rows has changed what it was given")
	}
}

func TestWhatIsToldIsTheCallersOwn(t *testing.T) {
	row := []uint64{5, 6, 7}
	first, _ := Rows(row, row, row)
	second, _ := Rows(row, row, row)
	for i := range first {
		first[i] = 99
	}
	first = append(first, 98)
	row[0] = 97
	if !slices.Equal(second, []uint64{5, 6, 7}) || !slices.Equal(row, []uint64{97, 6, 7}) || len(first) != 4 {
		t.Errorf("R6: writing into what Rows told has changed %d or %d", second, row)
	}
	digits, parts := Mixed([3]uint64{1, 2, 3}), Parts(12345678901)
	same, again := digits, parts
	digits[0], parts[0] = 99, 99
	if Mixed([3]uint64{1, 2, 3}) != same || Parts(12345678901) != again {
		t.Error("R6: writing into digits or parts has changed the next ones")
	}
}

func TestSameCallsTellTheSame(t *testing.T) {
	for _, z := range residues()[:200] {
		n, ok := Join(z)
		m, is := Join(z)
		if n != m || ok != is || Mixed(z) != Mixed(z) {
			t.Errorf("R7: %d is told in two ways", z)
		}
	}
}

func TestExamples(t *testing.T) {
	if n, ok := Join(Parts(math.MaxUint64)); n != math.MaxUint64 || !ok {
		t.Errorf("Join(Parts(2^64 - 1)) is %d, %v", n, ok)
	}
	if n, ok := Join([3]uint64{998244352, 167772160, 469762048}); n != 0 || ok {
		t.Errorf("Join(p0 - 1, p1 - 1, p2 - 1) is %d, %v", n, ok)
	}
}
