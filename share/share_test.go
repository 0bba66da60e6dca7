package share_test

import (
	"math"
	"math/big"
	"slices"
	"testing"

	"offertory/api"
	"offertory/share"
)

// draws are numbers that look drawn; each call has another.
type draws uint64

func (d *draws) next() uint64 {
	*d = *d*6364136223846793005 + 1442695040888963407
	return uint64(*d) ^ uint64(*d)>>29
}

// below are n numbers below P, its ends among them.
func (d *draws) below(n int) []uint64 {
	list := make([]uint64, n)
	for i := range list {
		switch list[i] = d.next() % api.P; d.next() % 8 {
		case 0:
			list[i] = 0
		case 1:
			list[i] = api.P - 1
		}
	}
	return list
}

// some are so many of the points, in any order.
func (d *draws) some(list []api.Point, n int) []api.Point {
	list = slices.Clone(list)
	for i := range list {
		k := int(d.next() % uint64(i+1))
		list[i], list[k] = list[k], list[i]
	}
	return list[:n]
}

func large(n uint64) *big.Int { return new(big.Int).SetUint64(n) }

func remainder(n *big.Int) uint64 { return new(big.Int).Mod(n, large(api.P)).Uint64() }

// plainAt is the sum of the secret and coeffs times powers, without bounds till its end.
func plainAt(secret uint64, coeffs []uint64, at int) uint64 {
	sum, power := large(secret), big.NewInt(1)
	for _, n := range coeffs {
		power.Mul(power, big.NewInt(int64(at)))
		sum.Add(sum, new(big.Int).Mul(large(n), power))
	}
	return remainder(sum)
}

// pointsAt are the points of a secret and coeffs at some places.
func pointsAt(secret uint64, coeffs []uint64, places ...int) []api.Point {
	var list []api.Point
	for _, at := range places {
		list = append(list, api.Point{At: at, Value: plainAt(secret, coeffs, at)})
	}
	return list
}

func firstPlaces(n int) []int {
	var list []int
	for at := range n {
		list = append(list, at+1)
	}
	return list
}

// plainValue is what the polynomial through some points has at a place: of each point its value times a product that is 1 there, and 0 at the other points.
func plainValue(list []api.Point, at int) uint64 {
	sum := new(big.Int)
	for i, one := range list {
		part, under := large(one.Value), big.NewInt(1)
		for k, other := range list {
			if k != i {
				part.Mul(part, big.NewInt(int64(at-other.At)))
				under.Mul(under, big.NewInt(int64(one.At-other.At)))
			}
		}
		under.Mod(under, large(api.P))
		sum.Add(sum, part.Mul(part, under.ModInverse(under, large(api.P))))
	}
	return remainder(sum)
}

func plainFits(enough int, list []api.Point) bool {
	return !slices.ContainsFunc(list, func(point api.Point) bool {
		return plainValue(list[:enough], point.At) != point.Value
	})
}

func wrongNumbers() []uint64 {
	return []uint64{api.P, api.P + 1, 2 * api.P, 8 * api.P, 1 << 63, math.MaxUint64 - 1, math.MaxUint64}
}

func wrongPlaces() []int {
	return []int{0, -1, -64, api.MaxDonors + 1, 1<<32 + 1, math.MinInt, math.MaxInt}
}

// wrongCounts are those that no limit of MaxDonors lets through.
func wrongCounts() []int {
	return []int{0, -1, -2, -api.MaxDonors, api.MaxDonors + 1, api.MaxDonors + 2, 1<<32 + 1, math.MinInt, math.MinInt + 1, math.MaxInt - 1, math.MaxInt}
}

func checkSplit(t *testing.T, secret uint64, enough, n int, coeffs []uint64) {
	t.Helper()
	want := pointsAt(secret, coeffs, firstPlaces(n)...)
	if got, e := share.Split(secret, enough, n, coeffs); e != api.OK || !slices.Equal(got, want) {
		t.Errorf("Split(%d, %d, %d, %d) is %v, %d, not %v, OK", secret, enough, n, coeffs, got, e, want)
	}
}

func checkNoSplit(t *testing.T, secret uint64, enough, n int, coeffs []uint64, want api.Errno) {
	t.Helper()
	if got, e := share.Split(secret, enough, n, coeffs); e != want || len(got) != 0 {
		t.Errorf("Split(%d, %d, %d, %d) is %v, %d, not no points, %d", secret, enough, n, coeffs, got, e, want)
	}
}

func TestSplitKnown(t *testing.T) {
	const last = api.P - 1
	for _, c := range []struct {
		secret uint64
		coeffs []uint64
		want   []uint64
	}{
		{0, nil, []uint64{0}}, {9, nil, []uint64{9}}, {9, []uint64{}, []uint64{9, 9, 9}}, {last, nil, []uint64{last, last}},
		{3, []uint64{2}, []uint64{5, 7}}, {3, []uint64{2}, []uint64{5, 7, 9, 11}}, {1, []uint64{last}, []uint64{0, last, api.P - 2}},
		{last, []uint64{1}, []uint64{0, 1, 2}}, {42, []uint64{7, last}, []uint64{48, 52, 54, 54, 52, 48}},
		{0, []uint64{0, 0, 1}, []uint64{1, 8, 27, 64}}, {5, []uint64{1, 0, 0}, []uint64{6, 7, 8, 9, 10}},
		{1 << 60, []uint64{1 << 60}, []uint64{1, 1<<60 + 1, 2}},
	} {
		got, e := share.Split(c.secret, len(c.coeffs)+1, len(c.want), c.coeffs)
		if e != api.OK || len(got) != len(c.want) {
			t.Fatalf("Split of %d by %d is %v, %d, not %d points, OK", c.secret, c.coeffs, got, e, len(c.want))
		}
		for i, value := range c.want {
			if got[i] != (api.Point{At: i + 1, Value: value}) {
				t.Errorf("Split of %d by %d is %v, not of the values %d", c.secret, c.coeffs, got, c.want)
			}
		}
	}
}

// Every n, with enough at its ends, a step beyond them, and some in between.
func TestSplitEachCount(t *testing.T) {
	d := draws(1)
	for n := 1; n <= api.MaxDonors; n++ {
		for enough := 1; enough <= n; enough++ {
			if enough <= 2 || enough >= n-1 || enough%7 == n%7 {
				checkSplit(t, d.below(1)[0], enough, n, d.below(enough-1))
			}
		}
		checkNoSplit(t, 1, 0, n, nil, api.ErrArg)
		checkNoSplit(t, 1, n+1, n, d.below(n), api.ErrArg)
	}
}

func TestSplitWrongN(t *testing.T) {
	for _, n := range wrongCounts() {
		for _, enough := range []int{1, 2, 64, 65, n - 1, n} {
			coeffs := make([]uint64, min(max(enough-1, 0), 99))
			checkNoSplit(t, 1, enough, n, coeffs, api.ErrArg)
		}
	}
	checkSplit(t, 1, 1, 1, nil)
	checkSplit(t, 1, 1, api.MaxDonors, nil)
	checkSplit(t, 1, api.MaxDonors, api.MaxDonors, make([]uint64, api.MaxDonors-1))
}

func TestSplitWrongEnough(t *testing.T) {
	for _, n := range []int{1, 2, 5, api.MaxDonors} {
		for _, enough := range append(wrongCounts(), n+1, n+2) {
			for _, size := range []int{0, 1, n - 1, n, n + 1, min(max(enough-1, 0), 99)} {
				checkNoSplit(t, 1, enough, n, make([]uint64, size), api.ErrArg)
			}
		}
	}
}

func TestSplitWrongCoeffs(t *testing.T) {
	for _, enough := range []int{1, 2, 3, 31, api.MaxDonors} {
		for _, n := range []int{enough, api.MaxDonors} {
			checkSplit(t, 8, enough, n, make([]uint64, enough-1))
			checkNoSplit(t, 8, enough, n, make([]uint64, enough), api.ErrArg)
			checkNoSplit(t, 8, enough, n, make([]uint64, enough+1), api.ErrArg)
			checkNoSplit(t, 8, enough, n, make([]uint64, 1000), api.ErrArg)
			if enough > 1 {
				checkNoSplit(t, 8, enough, n, make([]uint64, enough-2), api.ErrArg)
				checkNoSplit(t, 8, enough, n, make([]uint64, 5, 80)[:0], api.ErrArg)
				checkNoSplit(t, 8, enough, n, nil, api.ErrArg)
				checkNoSplit(t, 8, enough, n, []uint64{}, api.ErrArg)
			}
		}
	}
	checkSplit(t, 8, 1, 3, nil)
	checkSplit(t, 8, 1, 3, []uint64{})
	checkSplit(t, 8, 1, 3, make([]uint64, 5)[:0])
}

func TestSplitOutOfRange(t *testing.T) {
	for _, wrong := range wrongNumbers() {
		checkNoSplit(t, wrong, 1, 1, nil, api.ErrRange)
		checkNoSplit(t, wrong, 3, 4, []uint64{1, 2}, api.ErrRange)
		checkNoSplit(t, wrong, 3, 4, []uint64{1, wrong}, api.ErrRange)
		for _, enough := range []int{2, 3, 6, api.MaxDonors} {
			for i := range enough - 1 {
				coeffs := make([]uint64, enough-1)
				coeffs[i] = wrong
				checkNoSplit(t, 5, enough, api.MaxDonors, coeffs, api.ErrRange)
				coeffs[i] = api.P - 1
				checkSplit(t, 5, enough, api.MaxDonors, coeffs)
			}
		}
	}
	checkSplit(t, api.P-1, 1, 1, nil)
	checkSplit(t, api.P-1, 3, 4, []uint64{api.P - 1, api.P - 1})
}

// ErrArg comes first, whatever makes it.
func TestSplitBothErrors(t *testing.T) {
	for _, wrong := range wrongNumbers() {
		for _, c := range []struct{ enough, n, size int }{
			{1, 0, 0}, {1, -1, 0}, {1, 65, 0}, {2, 65, 1}, {65, 65, 64}, {1, math.MinInt, 0}, {1, math.MaxInt, 0},
			{0, 3, 0}, {-1, 3, 0}, {4, 3, 3}, {0, 3, 1}, {math.MinInt, 3, 1}, {math.MaxInt, 3, 1},
			{2, 3, 0}, {2, 3, 2}, {1, 3, 1}, {64, 64, 64}, {64, 64, 62}, {0, 0, 0}, {0, 0, 1},
		} {
			coeffs := make([]uint64, c.size)
			checkNoSplit(t, wrong, c.enough, c.n, coeffs, api.ErrArg)
			for i := range coeffs {
				coeffs[i] = wrong
				checkNoSplit(t, 1, c.enough, c.n, coeffs, api.ErrArg)
				coeffs[i] = 0
			}
		}
	}
}

// checkJoin holds Join and Fits against what they must answer.
func checkJoin(t *testing.T, enough int, list []api.Point, want uint64, fits bool) {
	t.Helper()
	if got, e := share.Join(enough, list); e != api.OK || got != want {
		t.Errorf("Join(%d, %v) is %d, %d, not %d, OK", enough, list, got, e, want)
	}
	if got, e := share.Fits(enough, list); e != api.OK || got != fits {
		t.Errorf("Fits(%d, %v) is %t, %d, not %t, OK", enough, list, got, e, fits)
	}
}

func checkNoJoin(t *testing.T, enough int, list []api.Point, want api.Errno) {
	t.Helper()
	if got, e := share.Join(enough, list); e != want || got != 0 {
		t.Errorf("Join(%d, %v) is %d, %d, not 0, %d", enough, list, got, e, want)
	}
	if got, e := share.Fits(enough, list); e != want || got {
		t.Errorf("Fits(%d, %v) is %t, %d, not false, %d", enough, list, got, e, want)
	}
}

func TestJoinKnown(t *testing.T) {
	const last = api.P - 1
	for _, c := range []struct {
		enough int
		list   []api.Point
		want   uint64
		fits   bool
	}{
		{1, []api.Point{{At: 64, Value: last}}, last, true}, {1, []api.Point{{At: 1, Value: 0}}, 0, true},
		{1, []api.Point{{At: 3, Value: 8}, {At: 1, Value: 8}}, 8, true}, {1, []api.Point{{At: 3, Value: 8}, {At: 1, Value: 9}}, 8, false},
		{1, []api.Point{{At: 1, Value: 9}, {At: 3, Value: 8}}, 9, false}, {1, []api.Point{{At: 1, Value: 0}, {At: 3, Value: 8}}, 0, false},
		{2, []api.Point{{At: 1, Value: 5}, {At: 2, Value: 7}}, 3, true}, {2, []api.Point{{At: 2, Value: 7}, {At: 1, Value: 5}}, 3, true},
		{2, []api.Point{{At: 1, Value: 5}, {At: 2, Value: 7}, {At: 4, Value: 11}}, 3, true},
		{2, []api.Point{{At: 1, Value: 5}, {At: 2, Value: 7}, {At: 4, Value: 12}}, 3, false},
		{2, []api.Point{{At: 4, Value: 12}, {At: 2, Value: 7}, {At: 1, Value: 5}}, 2, false},
		{2, []api.Point{{At: 1, Value: last}, {At: 2, Value: api.P - 2}, {At: 64, Value: api.P - 64}}, 0, true},
		{2, []api.Point{{At: 1, Value: 0}, {At: 2, Value: 1}}, last, true}, {2, []api.Point{{At: 9, Value: 6}, {At: 8, Value: 6}, {At: 7, Value: 6}}, 6, true},
		{3, []api.Point{{At: 6, Value: 48}, {At: 4, Value: 54}, {At: 2, Value: 52}}, 42, true},
		{2, []api.Point{{At: 1, Value: 1}, {At: 2, Value: 4}, {At: 3, Value: 9}}, api.P - 2, false},
		{3, []api.Point{{At: 1, Value: 1}, {At: 2, Value: 4}, {At: 3, Value: 9}}, 0, true},
		{3, []api.Point{{At: 1, Value: 1}, {At: 2, Value: 4}, {At: 3, Value: 9}, {At: 4, Value: 17}}, 0, false},
	} {
		checkJoin(t, c.enough, c.list, c.want, c.fits)
	}
}

// Of all counts, any enough of the shares, and any more of them, in any order, are the secret again.
func TestJoinWhatWasSplit(t *testing.T) {
	d := draws(2)
	for _, n := range []int{1, 2, 3, 5, 8, 33, 63, api.MaxDonors} {
		for _, enough := range []int{1, 2, 3, n / 2, n - 1, n} {
			if enough < 1 || enough > n {
				continue
			}
			secret := d.below(1)[0]
			list, e := share.Split(secret, enough, n, d.below(enough-1))
			if e != api.OK {
				t.Fatalf("Split(%d, %d, %d, ..) is an error, %d", secret, enough, n, e)
			}
			checkJoin(t, enough, list, secret, true)
			for _, size := range []int{enough, (enough + n) / 2, n} {
				checkJoin(t, enough, d.some(list, size), secret, true)
			}
		}
	}
}

// Each list of five shares without one that stands twice, three of which are enough.
func TestJoinEachOrder(t *testing.T) {
	list, _ := share.Split(api.P-1, 3, 5, []uint64{0, 1 << 60})
	var walk func(some []api.Point)
	walk = func(some []api.Point) {
		if len(some) >= 3 {
			checkJoin(t, 3, some, api.P-1, true)
		} else if len(some) > 0 {
			checkNoJoin(t, 3, some, api.ErrFew)
		} else {
			checkNoJoin(t, 3, some, api.ErrArg)
		}
		for _, point := range list {
			if !slices.Contains(some, point) {
				walk(append(slices.Clone(some), point))
			}
		}
	}
	walk(nil)
}

// Shares of anything at all: the first enough make the number, whatever the others are.
func TestJoinAnyValues(t *testing.T) {
	d := draws(3)
	for range 60 {
		var list []api.Point
		for i, value := range d.below(api.MaxDonors) {
			list = append(list, api.Point{At: i + 1, Value: value})
		}
		size := 1 + int(d.next()%12)
		list = d.some(list, size)
		for enough := 1; enough <= size; enough++ {
			checkJoin(t, enough, list, plainValue(list[:enough], 0), plainFits(enough, list))
		}
	}
}

// One share with another value, whichever: the number is that of the first enough still, and nothing fits.
func TestJoinOneBent(t *testing.T) {
	d := draws(4)
	for _, c := range []struct{ enough, n int }{{1, 2}, {1, 9}, {2, 3}, {3, 4}, {3, 9}, {8, 9}, {1, 64}, {40, 64}, {63, 64}} {
		secret, coeffs := d.below(1)[0], d.below(c.enough-1)
		for i := range c.n {
			for _, more := range []uint64{1, api.P - 1, 1 << 60} {
				list := d.some(pointsAt(secret, coeffs, firstPlaces(c.n)...), c.n)
				list[i].Value = (list[i].Value + more) % api.P
				want := secret
				if i < c.enough {
					want = plainValue(list[:c.enough], 0)
				}
				checkJoin(t, c.enough, list, want, false)
			}
		}
	}
}

// As many points as are enough fit, whatever they are; one number fewer does not do for a curve whose highest one is not 0.
func TestFitsAsManyAsEnough(t *testing.T) {
	d := draws(5)
	for n := 1; n <= api.MaxDonors; n++ {
		coeffs := d.below(n - 1)
		if n > 1 {
			coeffs[n-2] = 1
		}
		list := pointsAt(7, coeffs, firstPlaces(n)...)
		checkJoin(t, n, list, 7, true)
		if n > 1 {
			checkJoin(t, n-1, list, plainValue(list[:n-1], 0), false)
		}
	}
}

// Fewer numbers than are asked for do, too: those above them are 0.
func TestFitsFewerNumbers(t *testing.T) {
	for _, coeffs := range [][]uint64{nil, {0}, {5}, {0, 5}, {5, 0, 0}} {
		for enough := len(coeffs) + 1; enough <= api.MaxDonors; enough++ {
			checkJoin(t, enough, pointsAt(0, coeffs, firstPlaces(api.MaxDonors)...), 0, true)
			checkJoin(t, enough, pointsAt(9, coeffs, firstPlaces(enough)...), 9, true)
		}
	}
}

func TestJoinWrongEnough(t *testing.T) {
	all := pointsAt(3, []uint64{2}, firstPlaces(api.MaxDonors)...)
	for _, enough := range wrongCounts() {
		for _, list := range [][]api.Point{
			nil, {}, all[:1], all[:2], all, append(slices.Clone(all), api.Point{At: 65, Value: 1}), {all[0], all[0]},
			{{At: 0, Value: 1}}, {{At: 65, Value: 1}}, {all[0], {At: 2, Value: api.P}}, {{At: math.MinInt, Value: math.MaxUint64}},
		} {
			checkNoJoin(t, enough, list, api.ErrArg)
		}
	}
	checkJoin(t, 1, pointsAt(3, nil, 1), 3, true)
	checkJoin(t, api.MaxDonors, all, 3, true)
}

func TestJoinFew(t *testing.T) {
	d := draws(6)
	all := pointsAt(3, d.below(9), firstPlaces(api.MaxDonors)...)
	for enough := 1; enough <= api.MaxDonors; enough++ {
		checkNoJoin(t, enough, nil, api.ErrArg)
		checkNoJoin(t, enough, []api.Point{}, api.ErrArg)
		checkNoJoin(t, enough, all[:0], api.ErrArg)
		for _, size := range []int{1, 2, enough / 2, enough - 2, enough - 1} {
			if size >= 1 && size < enough {
				checkNoJoin(t, enough, d.some(all, size), api.ErrFew)
				checkNoJoin(t, enough, all[:size], api.ErrFew)
			}
		}
		if enough >= 10 {
			checkJoin(t, enough, d.some(all, enough), 3, true)
		}
	}
}

// checkUnsound puts a wrong point at each place of good ones, and asks for fewer, as many and more of them.
func checkUnsound(t *testing.T, wrong api.Point, want api.Errno) {
	t.Helper()
	for i := range 5 {
		list := slices.Insert(pointsAt(3, []uint64{2}, 7, 1, 64, 20), i, wrong)
		for _, enough := range []int{1, 2, 4, 5, 6, api.MaxDonors} {
			checkNoJoin(t, enough, list, want)
		}
	}
}

func TestJoinUnsoundPoints(t *testing.T) {
	for _, at := range wrongPlaces() {
		for _, value := range []uint64{0, 5, api.P - 1, api.P, math.MaxUint64} {
			checkUnsound(t, api.Point{At: at, Value: value}, api.ErrRange)
		}
	}
	for _, value := range wrongNumbers() {
		checkUnsound(t, api.Point{At: 9, Value: value}, api.ErrRange)
		checkUnsound(t, api.Point{At: 64, Value: value}, api.ErrArg)
	}
	for _, at := range []int{1, 7, 20, 64} {
		checkUnsound(t, api.Point{At: at, Value: uint64(3 + 2*at)}, api.ErrArg)
		checkUnsound(t, api.Point{At: at, Value: 0}, api.ErrArg)
	}
}

// A place that stands twice is named ahead of one out of range, even of the one that stands twice.
func TestJoinTwiceAndOutOfRange(t *testing.T) {
	for _, enough := range []int{1, 2, 3, 4, api.MaxDonors} {
		for _, at := range wrongPlaces() {
			checkNoJoin(t, enough, []api.Point{{At: at, Value: 1}, {At: at, Value: 1}}, api.ErrArg)
			checkNoJoin(t, enough, []api.Point{{At: at, Value: 1}, {At: 2, Value: 1}, {At: 2, Value: 3}}, api.ErrArg)
			checkNoJoin(t, enough, []api.Point{{At: 2, Value: 1}, {At: 2, Value: 1}, {At: at, Value: 3}}, api.ErrArg)
		}
		checkNoJoin(t, enough, []api.Point{{At: 1, Value: api.P}, {At: 2, Value: 1}, {At: 2, Value: 3}}, api.ErrArg)
	}
}

func TestJoinTooManyPoints(t *testing.T) {
	for _, enough := range []int{1, 2, 63, api.MaxDonors} {
		for _, n := range []int{65, 66, 128, 5000} {
			checkNoJoin(t, enough, pointsAt(3, []uint64{2}, firstPlaces(n)...), api.ErrArg)
		}
		checkNoJoin(t, enough, make([]api.Point, 65), api.ErrArg)
	}
}

// checkOther holds Other against all that makes its coeffs the only ones.
func checkOther(t *testing.T, secret uint64, enough int, list []api.Point) []uint64 {
	t.Helper()
	got, e := share.Other(secret, enough, list)
	if e != api.OK || len(got) != enough-1 {
		t.Errorf("Other(%d, %d, %v) is %d, %d, not %d numbers, OK", secret, enough, list, got, e, enough-1)
		return nil
	}
	for _, point := range list {
		if value := plainAt(secret, got, point.At); value != point.Value {
			t.Errorf("Other(%d, %d, %v) has the value %d at %d, not %d", secret, enough, list, value, point.At, point.Value)
		}
	}
	shares, e := share.Split(secret, enough, api.MaxDonors, got)
	if e != api.OK {
		t.Errorf("Other(%d, %d, %v) is %d, which can't be split by: %d", secret, enough, list, got, e)
		return nil
	}
	for _, point := range list {
		if shares[point.At-1] != point {
			t.Errorf("Other(%d, %d, %v) is %d, which splits to %v at %d", secret, enough, list, got, shares[point.At-1], point.At)
		}
	}
	return got
}

func checkNoOther(t *testing.T, secret uint64, enough int, list []api.Point, want api.Errno) {
	t.Helper()
	if got, e := share.Other(secret, enough, list); e != want || len(got) != 0 {
		t.Errorf("Other(%d, %d, %v) is %d, %d, not no numbers, %d", secret, enough, list, got, e, want)
	}
}

func TestOtherKnown(t *testing.T) {
	const last = api.P - 1
	for _, c := range []struct {
		secret uint64
		list   []api.Point
		want   []uint64
	}{
		{9, nil, nil}, {0, []api.Point{}, nil}, {last, []api.Point{}, nil},
		{3, []api.Point{{At: 1, Value: 5}}, []uint64{2}}, {5, []api.Point{{At: 1, Value: 5}}, []uint64{0}}, {6, []api.Point{{At: 1, Value: 5}}, []uint64{last}},
		{1, []api.Point{{At: 2, Value: 2}}, []uint64{1 << 60}}, {last, []api.Point{{At: 1, Value: 0}}, []uint64{1}}, {0, []api.Point{{At: 64, Value: last}}, []uint64{api.P - 1<<55}},
		{42, []api.Point{{At: 2, Value: 52}, {At: 3, Value: 54}}, []uint64{7, last}}, {42, []api.Point{{At: 6, Value: 48}, {At: 1, Value: 48}}, []uint64{7, last}},
		{3, []api.Point{{At: 2, Value: 7}, {At: 9, Value: 21}}, []uint64{2, 0}}, {0, []api.Point{{At: 2, Value: 4}, {At: 9, Value: 81}}, []uint64{0, 1}},
		{8, []api.Point{{At: 5, Value: 8}, {At: 4, Value: 8}, {At: 3, Value: 8}}, []uint64{0, 0, 0}},
	} {
		if got := checkOther(t, c.secret, len(c.list)+1, c.list); !slices.Equal(got, c.want) {
			t.Errorf("Other(%d, %d, %v) is %d, not %d", c.secret, len(c.list)+1, c.list, got, c.want)
		}
	}
}

// With the secret that was split it is the coeffs; with any other one, the shares are the same.
func TestOtherOfWhatWasSplit(t *testing.T) {
	d := draws(7)
	for _, enough := range []int{1, 2, 3, 4, 9, 32, 63, api.MaxDonors} {
		for _, n := range []int{enough, api.MaxDonors} {
			secret, coeffs := d.below(1)[0], d.below(enough-1)
			list, e := share.Split(secret, enough, n, coeffs)
			if e != api.OK {
				t.Fatalf("Split(%d, %d, %d, %d) is an error, %d", secret, enough, n, coeffs, e)
			}
			some := d.some(list, enough-1)
			if got := checkOther(t, secret, enough, some); !slices.Equal(got, coeffs) {
				t.Errorf("Other(%d, %d, %v) is %d, not %d", secret, enough, some, got, coeffs)
			}
			for _, other := range []uint64{0, 1, api.P - 1, (secret + 1) % api.P, d.below(1)[0]} {
				checkOther(t, other, enough, some)
			}
		}
	}
}

// Coeffs that end in 0, or are 0 all of them, are as many all the same.
func TestOtherEndsInZero(t *testing.T) {
	d := draws(8)
	for _, enough := range []int{2, 3, 10, api.MaxDonors} {
		for size := 0; size < enough; size += 1 + enough/8 {
			coeffs := make([]uint64, enough-1)
			copy(coeffs, d.below(size))
			some := d.some(pointsAt(11, coeffs, firstPlaces(api.MaxDonors)...), enough-1)
			if got := checkOther(t, 11, enough, some); !slices.Equal(got, coeffs) {
				t.Errorf("Other(11, %d, %v) is %d, not %d", enough, some, got, coeffs)
			}
		}
	}
}

// Any values at any places: there are always coeffs.
func TestOtherAnyValues(t *testing.T) {
	d := draws(9)
	for range 60 {
		var list []api.Point
		for i, value := range d.below(api.MaxDonors) {
			list = append(list, api.Point{At: i + 1, Value: value})
		}
		n := int(d.next() % api.MaxDonors)
		checkOther(t, d.below(1)[0], n+1, d.some(list, n))
	}
}

func TestOtherWrongCounts(t *testing.T) {
	all := pointsAt(3, []uint64{2}, firstPlaces(200)...)
	for _, enough := range wrongCounts() {
		for _, n := range []int{0, 1, 2, 63, 64, 65, min(max(enough-1, 0), 200)} {
			checkNoOther(t, 1, enough, all[:n], api.ErrArg)
			checkNoOther(t, api.P, enough, all[:n], api.ErrArg)
		}
		checkNoOther(t, 1, enough, nil, api.ErrArg)
	}
	for enough := 1; enough <= api.MaxDonors; enough++ {
		checkOther(t, 1, enough, all[:enough-1])
		for _, n := range []int{0, enough - 2, enough, enough + 1, 200} {
			if n >= 0 && n != enough-1 {
				checkNoOther(t, 1, enough, all[:n], api.ErrArg)
			}
		}
		if enough > 1 {
			checkNoOther(t, 1, enough, nil, api.ErrArg)
			checkNoOther(t, 1, enough, []api.Point{}, api.ErrArg)
		}
	}
}

func TestOtherSecretOutOfRange(t *testing.T) {
	all := pointsAt(3, []uint64{2}, firstPlaces(api.MaxDonors)...)
	for _, enough := range []int{1, 2, 3, api.MaxDonors} {
		checkOther(t, api.P-1, enough, all[:enough-1])
		for _, secret := range wrongNumbers() {
			checkNoOther(t, secret, enough, all[:enough-1], api.ErrRange)
			checkNoOther(t, secret, enough, all[:enough], api.ErrArg)
			if enough > 1 {
				checkNoOther(t, secret, enough, all[:enough-2], api.ErrArg)
			}
		}
	}
}

// checkOtherUnsound puts a wrong point at each place of good ones.
func checkOtherUnsound(t *testing.T, wrong api.Point, want api.Errno) {
	t.Helper()
	for i := range 4 {
		list := slices.Insert(pointsAt(3, []uint64{2}, 7, 1, 64), i, wrong)
		checkNoOther(t, 1, 5, list, want)
		checkNoOther(t, 1, 4, list, api.ErrArg)
		checkNoOther(t, 1, 6, list, api.ErrArg)
		checkNoOther(t, 1, 0, list, api.ErrArg)
		checkNoOther(t, 1, 65, list, api.ErrArg)
		for _, secret := range wrongNumbers() {
			checkNoOther(t, secret, 5, list, api.ErrRange)
			checkNoOther(t, secret, 4, list, api.ErrArg)
			checkNoOther(t, secret, 6, list, api.ErrArg)
		}
	}
}

func TestOtherUnsoundPoints(t *testing.T) {
	for _, at := range wrongPlaces() {
		for _, value := range []uint64{0, 1, api.P - 1, api.P, math.MaxUint64} {
			checkNoOther(t, 1, 2, []api.Point{{At: at, Value: value}}, api.ErrRange)
			checkOtherUnsound(t, api.Point{At: at, Value: value}, api.ErrRange)
		}
		checkNoOther(t, 1, 3, []api.Point{{At: at, Value: 1}, {At: at, Value: 2}}, api.ErrArg)
		checkNoOther(t, 1, 4, []api.Point{{At: at, Value: 1}, {At: 2, Value: 2}, {At: 2, Value: 2}}, api.ErrArg)
		checkNoOther(t, 1, 4, []api.Point{{At: 2, Value: 2}, {At: 2, Value: 2}, {At: at, Value: 1}}, api.ErrArg)
	}
	for _, value := range wrongNumbers() {
		checkNoOther(t, 1, 2, []api.Point{{At: 9, Value: value}}, api.ErrRange)
		checkOtherUnsound(t, api.Point{At: 9, Value: value}, api.ErrRange)
		checkOtherUnsound(t, api.Point{At: 64, Value: value}, api.ErrArg)
	}
	for _, at := range []int{1, 7, 64} {
		checkOtherUnsound(t, api.Point{At: at, Value: uint64(3 + 2*at)}, api.ErrArg)
		checkOtherUnsound(t, api.Point{At: at, Value: 0}, api.ErrArg)
	}
}

// Whatever the secret, with Other's coeffs it has the shares, and is what Join finds: fewer than enough shares say nothing.
func TestOtherFitsAnySecret(t *testing.T) {
	d := draws(10)
	real := pointsAt(1000, d.below(4), firstPlaces(9)...)
	for _, secret := range d.below(30) {
		some := d.some(real, 4)
		shares, e := share.Split(secret, 5, 9, checkOther(t, secret, 5, some))
		if e != api.OK {
			t.Fatalf("Split of %d by Other's coeffs is an error, %d", secret, e)
		}
		checkJoin(t, 5, shares, secret, true)
		for _, point := range shares {
			if !slices.Contains(some, point) {
				checkJoin(t, 5, append(slices.Clone(some), point), secret, true)
			}
		}
	}
}

// withRoom is a copy of the list in memory of its own, with marks in its spare room.
func withRoom[T any](list []T, mark T) []T {
	room := make([]T, len(list)+9)
	for i := range room {
		room[i] = mark
	}
	copy(room, list)
	return room[:len(list)]
}

func whole[T any](list []T) []T { return list[:cap(list)] }

// checkMemory holds a call against R4: what it is handed stays as it is, and its answers are memory of their own.
func checkMemory[I, O comparable](t *testing.T, name string, plain []I, mark I, scrap O, act func(list []I) []O) {
	t.Helper()
	list := withRoom(plain, mark)
	before := slices.Clone(whole(list))
	first, second := act(list), act(list)
	kept := slices.Clone(whole(second))
	for i := range whole(first) {
		whole(first)[i] = scrap
	}
	if !slices.Equal(whole(list), before) {
		t.Errorf("%s of %v changes what is handed in, or answers its memory", name, plain)
	}
	clear(whole(list))
	if !slices.Equal(whole(second), kept) {
		t.Errorf("%s of %v answers the same memory twice, or what was handed in", name, plain)
	}
	if third := act(plain); !slices.Equal(third, second) {
		t.Errorf("%s of %v is %v the second time, not %v", name, plain, third, second)
	}
}

func TestSplitMemory(t *testing.T) {
	d := draws(11)
	for _, coeffs := range [][]uint64{nil, {5}, {0, 0}, {api.P}, {1, api.P}, d.below(20), d.below(63), d.below(64)} {
		for _, n := range []int{0, 1, len(coeffs), len(coeffs) + 1, 64, 65} {
			for _, enough := range []int{len(coeffs), len(coeffs) + 1} {
				checkMemory(t, "Split", coeffs, 77, api.Point{At: 77, Value: 78}, func(list []uint64) []api.Point {
					points, _ := share.Split(9, enough, n, list)
					return points
				})
			}
		}
	}
}

// lists are points that are sound, and such that are not.
func lists() [][]api.Point {
	d := draws(12)
	all := pointsAt(4, d.below(30), firstPlaces(api.MaxDonors)...)
	return [][]api.Point{
		nil, {}, {{At: 9, Value: 0}}, {{At: 9, Value: 4}}, {{At: 2, Value: 1}, {At: 1, Value: 5}}, {{At: 2, Value: 1}, {At: 2, Value: 5}},
		{{At: 3, Value: 1}, {At: 0, Value: 5}}, {{At: 3, Value: api.P + 1}, {At: 1, Value: 5}}, make([]api.Point, api.MaxDonors+1),
		d.some(all, 31), d.some(all, 40), d.some(all, 63), all,
	}
}

func TestJoinMemory(t *testing.T) {
	for _, plain := range lists() {
		for _, enough := range []int{0, 1, len(plain) - 1, len(plain), len(plain) + 1, 64, 65} {
			checkMemory(t, "Join", plain, api.Point{At: 77, Value: 78}, 0, func(list []api.Point) []uint64 {
				n, e := share.Join(enough, list)
				return []uint64{n, uint64(e)}
			})
			checkMemory(t, "Fits", plain, api.Point{At: 77, Value: 78}, false, func(list []api.Point) []bool {
				fits, e := share.Fits(enough, list)
				return []bool{fits, e == api.OK}
			})
		}
	}
}

func TestOtherMemory(t *testing.T) {
	for _, plain := range lists() {
		for _, secret := range []uint64{0, 4, 9, api.P - 1, api.P} {
			for _, enough := range []int{0, len(plain), len(plain) + 1, len(plain) + 2} {
				checkMemory(t, "Other", plain, api.Point{At: 77, Value: 78}, 79, func(list []api.Point) []uint64 {
					coeffs, _ := share.Other(secret, enough, list)
					return coeffs
				})
			}
		}
	}
}
