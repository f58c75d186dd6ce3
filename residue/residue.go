// Package residue is layer 1: numbers modulo three primes (see shared/doc/01-residue.md).
package residue

import "beagle/api"

// Primes is how many there are.
const Primes = 3

// The powers of generator are, modulo each of the primes, all numbers but 0: so roots of any order are among them.
const generator = 3

// Each prime is below 2^30, so that sums and products of two residues are exact in 64 bits;
// each less 1 is a multiple of 2^MaxLog, so that there are roots for all transforms.
var primes = [Primes]uint64{998244353, 167772161, 469762049}

// Prime tells prime k; 0, if there is none.
func Prime(k int) uint64 {
	if k < 0 || k >= Primes {
		return 0
	}
	return primes[k]
}

// Of tells a modulo prime k.
func Of(k int, a uint64) uint64 {
	p := Prime(k)
	if p == 0 {
		return 0
	}
	return a % p
}

// Add tells a and b together, modulo prime k.
func Add(k int, a, b uint64) uint64 {
	return Of(k, Of(k, a)+Of(k, b))
}

// Sub tells a less b, modulo prime k.
func Sub(k int, a, b uint64) uint64 {
	// The prime is added first, because the numbers have no sign.
	return Of(k, Of(k, a)+Prime(k)-Of(k, b))
}

// Mul tells a times b, modulo prime k.
func Mul(k int, a, b uint64) uint64 {
	return Of(k, Of(k, a)*Of(k, b))
}

// Pow tells a to the n, modulo prime k; 1, if n is 0.
func Pow(k int, a, n uint64) uint64 {
	power, square := Of(k, 1), Of(k, a)
next:
	if n == 0 {
		return power
	}
	if n&1 == 1 {
		power = Mul(k, power, square)
	}
	square = Mul(k, square, square)
	n >>= 1
	goto next
}

// Inv tells the number whose product with a is 1 modulo prime k; false, if a is a multiple of the prime, or there is no prime k.
func Inv(k int, a uint64) (uint64, bool) {
	if Of(k, a) == 0 {
		return 0, false
	}
	// By Fermat a to the (prime - 1) is 1, so one power less is the inverse.
	return Pow(k, a, Prime(k)-2), true
}

// Root tells a number whose powers modulo prime k come back to 1 after just 2^log of them; false, if log is not from 0 to MaxLog, or there is no prime k.
func Root(k, log int) (uint64, bool) {
	p := Prime(k)
	if p == 0 || log < 0 || log > api.MaxLog {
		return 0, false
	}
	return Pow(k, generator, (p-1)>>log), true
}
