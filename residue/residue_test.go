package residue

import (
	"math"
	"math/big"
	"testing"

	"beagle/api"
)

var wanted = [3]uint64{998244353, 167772161, 469762049}

var noPrimes = []int{-1, 3, 4, -3, 1 << 32, math.MaxInt, math.MinInt}

// samples are the edges of prime k and some ordinary numbers, always the same ones.
func samples(k int) []uint64 {
	p := wanted[k]
	most := math.MaxUint64 / p * p
	l := []uint64{0, 1, 2, 3, 10, p - 2, p - 1, p, p + 1, 2*p - 1, 2 * p, 2*p + 1, p * p, p*p - 1,
		1 << 30, 1 << 32, 1<<32 - 1, 1 << 63, 1<<63 - 1, most - 1, most, most + 1, math.MaxUint64 - 1, math.MaxUint64}
	x := uint64(88172645463325252)
	for range 12 {
		x ^= x << 13
		x ^= x >> 7
		x ^= x << 17
		l = append(l, x, x%1000, x%p)
	}
	return l
}

func whole(a uint64) *big.Int { return new(big.Int).SetUint64(a) }

// modulo tells a modulo prime k, never below 0.
func modulo(k int, a *big.Int) uint64 {
	return new(big.Int).Mod(a, whole(wanted[k])).Uint64()
}

func TestPrime(t *testing.T) {
	if Primes != 3 {
		t.Errorf("Primes is %d", Primes)
	}
	for k, p := range wanted {
		if got := Prime(k); got != p {
			t.Errorf("P1.1: Prime(%d) is %d, not %d", k, got, p)
		}
	}
	for _, k := range noPrimes {
		if got := Prime(k); got != 0 {
			t.Errorf("P1.1: Prime(%d) is %d, not 0", k, got)
		}
	}
}

func TestWithoutPrimeAllTellNothing(t *testing.T) {
	numbers := []uint64{0, 1, 2, 7, 998244353, math.MaxUint64}
	for _, k := range noPrimes {
		for _, a := range numbers {
			for _, b := range numbers {
				if Add(k, a, b) != 0 || Sub(k, a, b) != 0 || Mul(k, a, b) != 0 || Pow(k, a, b) != 0 {
					t.Errorf("P1.1: k %d: a call of %d and %d tells a number", k, a, b)
				}
			}
			if got := Of(k, a); got != 0 {
				t.Errorf("P1.1: Of(%d, %d) is %d", k, a, got)
			}
			if got, ok := Inv(k, a); got != 0 || ok {
				t.Errorf("P1.1: Inv(%d, %d) is %d, %v", k, a, got, ok)
			}
		}
		for log := -1; log <= api.MaxLog+1; log++ {
			if got, ok := Root(k, log); got != 0 || ok {
				t.Errorf("P1.1: Root(%d, %d) is %d, %v", k, log, got, ok)
			}
		}
	}
}

func TestOf(t *testing.T) {
	for k := range wanted {
		for _, a := range samples(k) {
			if got, want := Of(k, a), modulo(k, whole(a)); got != want {
				t.Errorf("P1.2: Of(%d, %d) is %d, not %d", k, a, got, want)
			}
		}
	}
}

func TestAddSubMul(t *testing.T) {
	calls := []struct {
		name  string
		call  func(k int, a, b uint64) uint64
		exact func(z, a, b *big.Int) *big.Int
	}{
		{"Add", Add, (*big.Int).Add},
		{"Sub", Sub, (*big.Int).Sub},
		{"Mul", Mul, (*big.Int).Mul},
	}
	for _, c := range calls {
		for k := range wanted {
			for _, a := range samples(k) {
				for _, b := range samples(k) {
					want := modulo(k, c.exact(new(big.Int), whole(a), whole(b)))
					if got := c.call(k, a, b); got != want {
						t.Errorf("P1.2: %s(%d, %d, %d) is %d, not %d", c.name, k, a, b, got, want)
					}
				}
			}
		}
	}
}

func TestPow(t *testing.T) {
	for k, p := range wanted {
		for _, a := range samples(k) {
			if got := Pow(k, a, 0); got != 1 {
				t.Errorf("P1.2: Pow(%d, %d, 0) is %d, not 1", k, a, got)
			}
			for _, n := range samples(k) {
				want := new(big.Int).Exp(whole(a), whole(n), whole(p)).Uint64()
				if got := Pow(k, a, n); got != want {
					t.Errorf("P1.2: Pow(%d, %d, %d) is %d, not %d", k, a, n, got, want)
				}
			}
		}
	}
}

func TestInv(t *testing.T) {
	for k, p := range wanted {
		for _, a := range samples(k) {
			inverse := new(big.Int).ModInverse(whole(a), whole(p))
			got, ok := Inv(k, a)
			if inverse == nil && (got != 0 || ok) {
				t.Errorf("P1.2: Inv(%d, %d) is %d, %v, of a multiple of the prime", k, a, got, ok)
			}
			if inverse != nil && (got != inverse.Uint64() || !ok) {
				t.Errorf("P1.2: Inv(%d, %d) is %d, %v, not %v", k, a, got, ok, inverse)
			}
		}
		for _, a := range []uint64{0, p, 2 * p, math.MaxUint64 / p * p} {
			if got, ok := Inv(k, a); got != 0 || ok {
				t.Errorf("P1.2: Inv(%d, %d) is %d, %v", k, a, got, ok)
			}
		}
	}
}

func TestRoot(t *testing.T) {
	for k, p := range wanted {
		for log := range api.MaxLog + 1 {
			got, ok := Root(k, log)
			want := new(big.Int).Exp(big.NewInt(3), whole((p-1)/(1<<log)), whole(p)).Uint64()
			if got != want || !ok {
				t.Errorf("P1.3: Root(%d, %d) is %d, %v, not %d", k, log, got, ok, want)
			}
			if order := orderOf(got, p); order != 1<<log {
				t.Errorf("P1.3: the powers of Root(%d, %d) come back to 1 after %d, not %d", k, log, order, 1<<log)
			}
		}
		for _, log := range []int{-1, -2, -64, api.MaxLog + 1, api.MaxLog + 2, 23, 63, 64, math.MaxInt, math.MinInt} {
			if got, ok := Root(k, log); got != 0 || ok {
				t.Errorf("P1.3: Root(%d, %d) is %d, %v", k, log, got, ok)
			}
		}
	}
}

// orderOf tells the least n from 1 on of which r to the n is 1 modulo p; 0, if there is none up to MaxSize.
func orderOf(r, p uint64) int {
	power := uint64(1)
	for n := 1; n <= api.MaxSize; n++ {
		power = power * r % p
		if power == 1 {
			return n
		}
	}
	return 0
}

func TestLawsOfSumsAndProducts(t *testing.T) {
	for k := range wanted {
		l := samples(k)
		for _, a := range l {
			for _, b := range l {
				if Add(k, a, b) != Add(k, b, a) || Mul(k, a, b) != Mul(k, b, a) {
					t.Errorf("P1.4: k %d: the order of %d and %d is told apart", k, a, b)
				}
				if Add(k, Sub(k, a, b), b) != Of(k, a) {
					t.Errorf("P1.4: k %d: %d less %d and %d is not the first", k, a, b, b)
				}
				for _, c := range l {
					checkThree(t, k, a, b, c)
				}
			}
		}
	}
}

func checkThree(t *testing.T, k int, a, b, c uint64) {
	t.Helper()
	if Add(k, a, Add(k, b, c)) != Add(k, Add(k, a, b), c) {
		t.Errorf("P1.4: k %d: the sum of %d, %d, %d hangs on the order", k, a, b, c)
	}
	if Mul(k, a, Mul(k, b, c)) != Mul(k, Mul(k, a, b), c) {
		t.Errorf("P1.4: k %d: the product of %d, %d, %d hangs on the order", k, a, b, c)
	}
	if Mul(k, a, Add(k, b, c)) != Add(k, Mul(k, a, b), Mul(k, a, c)) {
		t.Errorf("P1.4: k %d: %d times the sum of %d and %d is not the sum of the products", k, a, b, c)
	}
}

func TestNumberTimesInverseIsOne(t *testing.T) {
	for k, p := range wanted {
		for _, a := range samples(k) {
			if a%p == 0 {
				continue
			}
			inverse, ok := Inv(k, a)
			if !ok || inverse >= p || Mul(k, a, inverse) != 1 || Mul(k, inverse, a) != 1 {
				t.Errorf("P1.4: k %d: %d times its inverse %d is not 1", k, a, inverse)
			}
		}
	}
}

func TestExamples(t *testing.T) {
	if got := Mul(0, 998244352, 2); got != 998244351 {
		t.Errorf("Mul(0, 998244352, 2) is %d", got)
	}
	if got := Pow(1, 2, 10); got != 1024 {
		t.Errorf("Pow(1, 2, 10) is %d", got)
	}
	if got, ok := Inv(2, 2); got != 234881025 || !ok {
		t.Errorf("Inv(2, 2) is %d, %v", got, ok)
	}
	if got, ok := Root(0, 1); got != 998244352 || !ok {
		t.Errorf("Root(0, 1) is %d, %v", got, ok)
	}
}
