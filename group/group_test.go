package group_test

import (
	"math"
	"math/big"
	"testing"

	"offertory/api"
	"offertory/group"
)

// half is the secret whose public number is P - 1, the only one that is not Good.
const half = (api.P - 1) / 2

// secrets are allowed ones: the ends, what stands beside the middle, and some in between.
func secrets() []uint64 {
	list := []uint64{
		1, 2, 3, 37, 61, 1000, 123456789, 1<<32 - 1, 1 << 32, 1<<60 - 1, 1 << 60,
		half - 1, half, half + 1, api.P - 4, api.P - 3, api.P - 2,
	}
	n := uint64(1)
	for range 20 {
		n = n*6364136223846793005 + 1442695040888963407
		list = append(list, n%(api.P-2)+1)
	}
	return list
}

// publics are Good ones: the ends, some of a small order, and some in between.
func publics() []uint64 {
	list := []uint64{2, 3, 4, 36, 37, 38, 1 << 32, 1 << 60, 1<<60 + 1, half, half + 1, api.P - 4, api.P - 3, api.P - 2}
	n := uint64(7)
	for range 20 {
		n = n*6364136223846793005 + 1442695040888963407
		list = append(list, n%(api.P-3)+2)
	}
	return list
}

// beyond are numbers above P - 1, which no call takes; some of their remainders are fine.
func beyond() []uint64 {
	return []uint64{
		api.P, api.P + 1, api.P + 2, 2*api.P - 2, 2*api.P - 1, 2 * api.P, 2*api.P + 5, 8 * api.P,
		1 << 61, 1<<61 + 1, 1 << 62, 1 << 63, 1<<63 + 5, math.MaxUint64 - 1, math.MaxUint64,
	}
}

func badSecrets() []uint64 { return append([]uint64{0, api.P - 1}, beyond()...) }

func badPublics() []uint64 { return append([]uint64{0, 1, api.P - 1}, beyond()...) }

// raised is a power that is worked out without package prime.
func raised(base, n uint64) uint64 {
	large := func(n uint64) *big.Int { return new(big.Int).SetUint64(n) }
	return new(big.Int).Exp(large(base), large(n), large(api.P)).Uint64()
}

func multiplied(a, b uint64) uint64 {
	product := new(big.Int).Mul(new(big.Int).SetUint64(a), new(big.Int).SetUint64(b))
	return product.Mod(product, big.NewInt(api.P)).Uint64()
}

func check(t *testing.T, got uint64, e api.Errno, want uint64, wantError api.Errno, name string, args ...uint64) {
	t.Helper()
	if got != want || e != wantError {
		t.Errorf("%s%v is %d, %d, not %d, %d", name, args, got, e, want, wantError)
	}
}

func TestPublic(t *testing.T) {
	for _, c := range []struct{ secret, want uint64 }{
		{1, 37}, {2, 1369}, {3, 50653}, {10, 4808584372417849}, {half, api.P - 1}, {half + 1, api.P - 37},
	} {
		got, e := group.Public(c.secret)
		check(t, got, e, c.want, api.OK, "Public", c.secret)
	}
	for _, secret := range secrets() {
		got, e := group.Public(secret)
		check(t, got, e, raised(api.Gen, secret), api.OK, "Public", secret)
	}
}

// The greatest secret's power is one less than that which is 1.
func TestPublicOfTheGreatest(t *testing.T) {
	got, e := group.Public(api.P - 2)
	if e != api.OK || multiplied(got, api.Gen) != 1 {
		t.Errorf("Public(P - 2) is %d, %d, and Gen times it is not 1", got, e)
	}
}

func TestPublicRefused(t *testing.T) {
	for _, secret := range badSecrets() {
		got, e := group.Public(secret)
		check(t, got, e, 0, api.ErrArg, "Public", secret)
	}
}

func TestGood(t *testing.T) {
	for _, public := range publics() {
		if !group.Good(public) {
			t.Errorf("%d is not Good", public)
		}
	}
	for _, public := range badPublics() {
		if group.Good(public) {
			t.Errorf("%d is Good", public)
		}
	}
}

func TestAgree(t *testing.T) {
	for _, c := range []struct{ secret, public, want uint64 }{
		{1, 2, 2}, {1, api.P - 2, api.P - 2}, {2, api.P - 2, 4}, {3, api.P - 2, api.P - 8}, {5, 3, 243},
		{60, 2, 1 << 60}, {61, 2, 1}, {62, 2, 2}, {61, api.P - 2, api.P - 1}, {api.P - 2, 2, 1 << 60}, {api.P - 2, 1 << 60, 2},
		{half, 37, api.P - 1}, {half, 1369, 1},
	} {
		got, e := group.Agree(c.secret, c.public)
		check(t, got, e, c.want, api.OK, "Agree", c.secret, c.public)
	}
	for _, secret := range secrets() {
		for _, public := range publics() {
			got, e := group.Agree(secret, public)
			check(t, got, e, raised(public, secret), api.OK, "Agree", secret, public)
		}
	}
}

func TestAgreeRefusesSecrets(t *testing.T) {
	for _, secret := range badSecrets() {
		for _, public := range publics() {
			got, e := group.Agree(secret, public)
			check(t, got, e, 0, api.ErrArg, "Agree", secret, public)
		}
	}
}

func TestAgreeRefusesPublics(t *testing.T) {
	for _, secret := range secrets() {
		for _, public := range badPublics() {
			got, e := group.Agree(secret, public)
			check(t, got, e, 0, api.ErrKey, "Agree", secret, public)
		}
	}
}

func TestAgreeNamesTheSecretFirst(t *testing.T) {
	for _, secret := range badSecrets() {
		for _, public := range badPublics() {
			got, e := group.Agree(secret, public)
			check(t, got, e, 0, api.ErrArg, "Agree", secret, public)
		}
	}
}

func TestBothComeToTheSame(t *testing.T) {
	for _, a := range secrets() {
		for _, b := range secrets() {
			// A public number P - 1 is not Good: the other one is refused.
			if a == half || b == half {
				continue
			}
			publicA, errorA := group.Public(a)
			publicB, errorB := group.Public(b)
			one, errorOne := group.Agree(a, publicB)
			other, errorOther := group.Agree(b, publicA)
			if errorA != api.OK || errorB != api.OK || errorOne != api.OK || errorOther != api.OK || one != other {
				t.Errorf("%d and %d come to %d, %d and %d, %d", a, b, one, errorOne, other, errorOther)
			}
			if want := raised(raised(api.Gen, a), b); one != want {
				t.Errorf("%d and %d come to %d, not %d", a, b, one, want)
			}
		}
	}
}

// One secret alone has a public number that is not Good; what each call promises holds for it, too.
func TestTheSecretWhosePublicIsNotGood(t *testing.T) {
	public, e := group.Public(half)
	check(t, public, e, api.P-1, api.OK, "Public", half)
	for _, secret := range secrets() {
		got, e := group.Agree(secret, public)
		check(t, got, e, 0, api.ErrKey, "Agree", secret, public)
	}
	for _, secret := range secrets() {
		if public, _ := group.Public(secret); group.Good(public) != (secret != half) {
			t.Errorf("Public(%d) is %d: Good or not, it should be otherwise", secret, public)
		}
	}
}

// primesOf are a number's primes, each once.
func primesOf(n uint64) []uint64 {
	var list []uint64
	for d := uint64(2); d*d <= n; d++ {
		if n%d == 0 {
			list = append(list, d)
		}
		for n%d == 0 {
			n /= d
		}
	}
	if n > 1 {
		list = append(list, n)
	}
	return list
}

// divisors are all numbers that divide n.
func divisors(n uint64) []uint64 {
	list := []uint64{1}
	for _, p := range primesOf(n) {
		old := list
		for power := p; n%power == 0; power *= p {
			for _, d := range old {
				list = append(list, d*power)
			}
		}
	}
	return list
}

func TestOrder(t *testing.T) {
	for _, c := range []struct{ a, want uint64 }{
		{1, 1}, {api.P - 1, 2}, {2, 61}, {4, 61}, {1 << 60, 61}, {api.P - 2, 122}, {api.P - 4, 122},
		{37, api.P - 1}, {1369, (api.P - 1) / 2}, {50653, (api.P - 1) / 3}, {api.P - 37, (api.P - 1) / 2},
	} {
		got, e := group.Order(c.a)
		check(t, got, e, c.want, api.OK, "Order", c.a)
	}
}

// Gen's own order is P - 1, so its power (P - 1) / d has the order d: every order that there is stands here.
func TestOrderOfPowersOfGen(t *testing.T) {
	all := divisors(api.P - 1)
	if len(all) != 9216 {
		t.Fatalf("P - 1 has %d divisors", len(all))
	}
	for _, d := range all {
		a := raised(api.Gen, (api.P-1)/d)
		got, e := group.Order(a)
		check(t, got, e, d, api.OK, "Order", a)
	}
	whole := big.NewInt(api.P - 1)
	for _, n := range append(secrets(), publics()...) {
		common := new(big.Int).GCD(nil, nil, new(big.Int).SetUint64(n), whole).Uint64()
		a := raised(api.Gen, n)
		got, e := group.Order(a)
		check(t, got, e, (api.P-1)/common, api.OK, "Order", a)
	}
}

// Where the order is small, all powers below it are gone through.
func TestOrderStepByStep(t *testing.T) {
	for _, d := range divisors(api.P - 1) {
		if d > 2000 {
			continue
		}
		a := raised(api.Gen, (api.P-1)/d)
		steps, power := uint64(1), a
		for power != 1 {
			steps, power = steps+1, multiplied(power, a)
		}
		got, e := group.Order(a)
		check(t, got, e, steps, api.OK, "Order", a)
	}
}

// If a smaller power than n were 1, the least would divide n, and so would one of those that lack one prime.
func TestNoSmallerPowerIsOne(t *testing.T) {
	for _, a := range append(publics(), secrets()...) {
		n, e := group.Order(a)
		if e != api.OK || n == 0 || raised(a, n) != 1 {
			t.Errorf("Order(%d) is %d, %d, and that power is not 1", a, n, e)
			continue
		}
		for _, p := range primesOf(n) {
			if raised(a, n/p) == 1 {
				t.Errorf("Order(%d) is %d, but the power %d is 1, too", a, n, n/p)
			}
		}
	}
}

func TestOrderRefused(t *testing.T) {
	for _, a := range append([]uint64{0}, beyond()...) {
		got, e := group.Order(a)
		check(t, got, e, 0, api.ErrArg, "Order", a)
	}
}

func TestNothingIsKept(t *testing.T) {
	for range 3 {
		got, e := group.Order(2)
		check(t, got, e, 61, api.OK, "Order", 2)
		got, e = group.Order(37)
		check(t, got, e, api.P-1, api.OK, "Order", 37)
		got, e = group.Agree(0, 2)
		check(t, got, e, 0, api.ErrArg, "Agree", 0, 2)
		got, e = group.Agree(5, 3)
		check(t, got, e, 243, api.OK, "Agree", 5, 3)
		got, e = group.Public(2)
		check(t, got, e, 1369, api.OK, "Public", 2)
	}
}
