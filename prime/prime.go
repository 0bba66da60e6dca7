// Package prime is numbers modulo 2^61 - 1.
package prime

import (
	"math/bits"

	"offertory/api"
)

// primeBits is how many bits P has, all of them 1: 2^primeBits is 1 modulo P.
const primeBits = 61

// number is a remainder by P, from 0 to P - 1; its methods rely on it.
type number uint64

func of(n uint64) number { return number(n % api.P) }

func (a number) plus(b number) number { return of(uint64(a) + uint64(b)) }

// P is added first, so that the difference is never below 0.
func (a number) minus(b number) number { return of(uint64(a) + api.P - uint64(b)) }

// The product's bits from primeBits on count as if they stood at the low end, since 2^primeBits is 1.
func (a number) times(b number) number {
	high, low := bits.Mul64(uint64(a), uint64(b))
	upper := high<<(64-primeBits) | low>>primeBits
	lower := low & api.P
	return of(upper + lower)
}

// both brings any two numbers into the range that the methods rely on.
func both(act func(a, b number) number, a, b uint64) uint64 {
	return uint64(act(of(a), of(b)))
}

// Mod: a number's remainder.
func Mod(n uint64) uint64 { return uint64(of(n)) }

// Add: a sum.
func Add(a, b uint64) uint64 { return both(number.plus, a, b) }

// Sub: a difference.
func Sub(a, b uint64) uint64 { return both(number.minus, a, b) }

// Mul: a product.
func Mul(a, b uint64) uint64 { return both(number.times, a, b) }

// Pow: a power; that of 0 is 1, of the number 0, too.
func Pow(a, n uint64) uint64 {
	result, square := number(1), of(a)
	for ; n > 0; n >>= 1 {
		if n&1 == 1 {
			result = result.times(square)
		}
		square = square.times(square)
	}
	return uint64(result)
}

// Inv: what times a number is 1.
func Inv(a uint64) (uint64, api.Errno) {
	if Mod(a) == 0 {
		return 0, api.ErrArg
	}
	// P is prime: a to the power P - 1 is 1, so one power less is what is asked for.
	return Pow(a, api.P-2), api.OK
}
