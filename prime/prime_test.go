package prime_test

import (
	"math"
	"math/big"
	"testing"

	"offertory/api"
	"offertory/prime"
)

// numbers are the ends, what stands beside P's multiples and the powers of 2, and some in between.
func numbers() []uint64 {
	list := []uint64{
		0, 1, 2, 3, 5, 37, 1000,
		1<<32 - 1, 1 << 32, 1<<60 - 1, 1 << 60, 1<<60 + 1,
		math.MaxUint64 - 1, math.MaxUint64,
		0x123456789abcdef, 0xfedcba9876543210, 0xdeadbeefcafef00d,
	}
	for times := range uint64(9) {
		multiple := times * api.P
		if times > 0 {
			list = append(list, multiple-2, multiple-1)
		}
		list = append(list, multiple, multiple+1, multiple+2)
	}
	n := uint64(1)
	for range 30 {
		n = n*6364136223846793005 + 1442695040888963407
		list = append(list, n, n>>3)
	}
	return list
}

func large(n uint64) *big.Int { return new(big.Int).SetUint64(n) }

// remainder is from 0 to P - 1, of numbers below 0, too.
func remainder(n *big.Int) uint64 { return new(big.Int).Mod(n, large(api.P)).Uint64() }

func TestMod(t *testing.T) {
	for _, c := range []struct{ n, want uint64 }{
		{0, 0}, {1, 1}, {api.P - 1, api.P - 1}, {api.P, 0}, {api.P + 1, 1}, {2*api.P - 1, api.P - 1},
		{2 * api.P, 0}, {8 * api.P, 0}, {8*api.P - 1, api.P - 1}, {math.MaxUint64, 7},
	} {
		if got := prime.Mod(c.n); got != c.want {
			t.Errorf("Mod(%d) is %d, not %d", c.n, got, c.want)
		}
	}
	for _, n := range numbers() {
		if got, want := prime.Mod(n), remainder(large(n)); got != want {
			t.Errorf("Mod(%d) is %d, not %d", n, got, want)
		}
	}
}

type pair struct{ a, b, want uint64 }

func checkPairs(t *testing.T, name string, act func(a, b uint64) uint64, list []pair) {
	t.Helper()
	for _, c := range list {
		if got := act(c.a, c.b); got != c.want {
			t.Errorf("%s(%d, %d) is %d, not %d", name, c.a, c.b, got, c.want)
		}
	}
}

// checkAll holds a call against the same on numbers without bounds, for every two of the list.
func checkAll(t *testing.T, name string, act func(a, b uint64) uint64, exact func(z, a, b *big.Int) *big.Int) {
	t.Helper()
	for _, a := range numbers() {
		for _, b := range numbers() {
			want := remainder(exact(new(big.Int), large(a), large(b)))
			if got := act(a, b); got != want {
				t.Errorf("%s(%d, %d) is %d, not %d", name, a, b, got, want)
			}
		}
	}
}

func TestAdd(t *testing.T) {
	checkPairs(t, "Add", prime.Add, []pair{
		{0, 0, 0}, {1, 2, 3}, {api.P - 1, 0, api.P - 1}, {api.P - 1, 1, 0}, {api.P - 1, api.P - 1, api.P - 2},
		{api.P, api.P, 0}, {api.P + 3, 4, 7}, {math.MaxUint64, 1, 8}, {math.MaxUint64, math.MaxUint64, 14},
	})
	checkAll(t, "Add", prime.Add, (*big.Int).Add)
}

func TestSub(t *testing.T) {
	checkPairs(t, "Sub", prime.Sub, []pair{
		{0, 0, 0}, {5, 3, 2}, {3, 5, api.P - 2}, {0, 1, api.P - 1}, {0, api.P - 1, 1}, {api.P - 1, api.P - 1, 0},
		{api.P, api.P, 0}, {0, api.P, 0}, {api.P, 1, api.P - 1}, {0, math.MaxUint64, api.P - 7}, {math.MaxUint64, 0, 7},
	})
	checkAll(t, "Sub", prime.Sub, (*big.Int).Sub)
}

func TestMul(t *testing.T) {
	checkPairs(t, "Mul", prime.Mul, []pair{
		{0, 0, 0}, {6, 7, 42}, {0, api.P - 1, 0}, {1, api.P - 1, api.P - 1}, {api.P - 1, api.P - 1, 1},
		{1 << 60, 2, 1}, {api.P, 5, 0}, {api.P, api.P, 0}, {api.P + 2, 3, 6}, {math.MaxUint64, math.MaxUint64, 49},
	})
	checkAll(t, "Mul", prime.Mul, (*big.Int).Mul)
}

func TestPow(t *testing.T) {
	checkPairs(t, "Pow", prime.Pow, []pair{
		{0, 0, 1}, {api.P, 0, 1}, {7, 0, 1}, {math.MaxUint64, 0, 1}, {0, 1, 0}, {0, math.MaxUint64, 0}, {api.P, api.P - 1, 0},
		{1, math.MaxUint64, 1}, {3, 4, 81}, {2, 61, 1}, {2, 64, 8}, {api.P + 2, 10, 1024}, {api.P - 1, 1, api.P - 1},
		{api.P - 1, 2, 1}, {api.P - 1, math.MaxUint64, api.P - 1}, {5, api.P - 1, 1}, {5, api.P, 5},
	})
	checkAll(t, "Pow", prime.Pow, func(z, a, b *big.Int) *big.Int { return z.Exp(a, b, large(api.P)) })
}

func TestPowIsTimesAndTimes(t *testing.T) {
	for _, a := range numbers() {
		want := uint64(1)
		for n := range uint64(70) {
			if got := prime.Pow(a, n); got != want {
				t.Errorf("Pow(%d, %d) is %d, not %d", a, n, got, want)
			}
			want = remainder(new(big.Int).Mul(large(want), large(a)))
		}
	}
}

func TestInv(t *testing.T) {
	for _, c := range []struct{ a, want uint64 }{
		{1, 1}, {2, 1 << 60}, {1 << 60, 2}, {api.P - 1, api.P - 1}, {api.P + 1, 1}, {api.P + 2, 1 << 60}, {2*api.P - 1, api.P - 1},
	} {
		if got, e := prime.Inv(c.a); e != api.OK || got != c.want {
			t.Errorf("Inv(%d) is %d, %d, not %d, OK", c.a, got, e, c.want)
		}
	}
	for _, a := range numbers() {
		if remainder(large(a)) == 0 {
			continue
		}
		got, e := prime.Inv(a)
		product := remainder(new(big.Int).Mul(large(got), large(a)))
		if e != api.OK || got == 0 || got >= api.P || product != 1 {
			t.Errorf("Inv(%d) is %d, %d, and the product is %d", a, got, e, product)
		}
	}
}

func TestInvOfNothing(t *testing.T) {
	for times := range uint64(9) {
		if got, e := prime.Inv(times * api.P); got != 0 || e != api.ErrArg {
			t.Errorf("Inv of %d times P is %d, %d, not 0, ErrArg", times, got, e)
		}
	}
}
