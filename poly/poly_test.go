package poly_test

import (
	"math"
	"math/big"
	"slices"
	"testing"

	"offertory/api"
	"offertory/poly"
)

// numbers are the ends, what stands beside P's multiples, and some in between.
func numbers() []uint64 {
	list := []uint64{
		0, 1, 2, 37, 1 << 32, 1 << 60, api.P - 2, api.P - 1, api.P, api.P + 1, 2*api.P - 1, 2 * api.P,
		7 * api.P, 8*api.P - 1, 8 * api.P, 8*api.P + 1, math.MaxUint64 - 1, math.MaxUint64,
	}
	d := draws(1)
	for range 5 {
		list = append(list, d.next())
	}
	return list
}

func places() []uint64 {
	return []uint64{0, 1, 2, 64, 65, 1 << 60, api.P - 1, api.P, api.P + 1, 2 * api.P, 8 * api.P, math.MaxUint64}
}

// draws are numbers that look drawn; each call has another.
type draws uint64

func (d *draws) next() uint64 {
	*d = *d*6364136223846793005 + 1442695040888963407
	return uint64(*d) ^ uint64(*d)>>29
}

func (d *draws) list(n int) []uint64 {
	list := make([]uint64, n)
	for i := range list {
		list[i] = d.next()
	}
	return list
}

// below are n numbers from 1 to P - 1.
func (d *draws) below(n int) []uint64 {
	list := d.list(n)
	for i := range list {
		list[i] = list[i]%(api.P-1) + 1
	}
	return list
}

// places are n of the places from 1 to MaxDonors, in any order.
func (d *draws) places(n int) []int {
	list := make([]int, api.MaxDonors)
	for i := range list {
		k := int(d.next() % uint64(i+1))
		list[i] = list[k]
		list[k] = i + 1
	}
	return list[:n]
}

func large(n uint64) *big.Int { return new(big.Int).SetUint64(n) }

func remainder(n *big.Int) uint64 { return new(big.Int).Mod(n, large(api.P)).Uint64() }

// plainAt is the sum of numbers times powers, without bounds till its end.
func plainAt(p []uint64, x uint64) uint64 {
	sum, power := new(big.Int), big.NewInt(1)
	for _, n := range p {
		sum.Add(sum, new(big.Int).Mul(large(n), power))
		power.Mul(power, large(x))
	}
	return remainder(sum)
}

func plainEnd(list []*big.Int) []uint64 {
	var out []uint64
	for i, n := range list {
		if r := remainder(n); r != 0 {
			out = append(out, make([]uint64, i-len(out))...)
			out = append(out, r)
		}
	}
	return out
}

func plainAdd(a, b []uint64) []uint64 {
	var sums []*big.Int
	for i := range max(len(a), len(b)) {
		sum := new(big.Int)
		if i < len(a) {
			sum.Add(sum, large(a[i]))
		}
		if i < len(b) {
			sum.Add(sum, large(b[i]))
		}
		sums = append(sums, sum)
	}
	return plainEnd(sums)
}

func plainMul(a, b []uint64) []uint64 {
	var sums []*big.Int
	for range len(a) + len(b) {
		sums = append(sums, new(big.Int))
	}
	for i, n := range a {
		for k, m := range b {
			sums[i+k].Add(sums[i+k], new(big.Int).Mul(large(n), large(m)))
		}
	}
	return plainEnd(sums)
}

// pointsOf are a polynomial's points at some places.
func pointsOf(p []uint64, places ...int) []api.Point {
	var list []api.Point
	for _, at := range places {
		list = append(list, api.Point{At: at, Value: plainAt(p, uint64(at))})
	}
	return list
}

func firstPlaces(n int) []int {
	var list []int
	for at := range n {
		list = append(list, at+1)
	}
	return list
}

func checkAt(t *testing.T, p []uint64, x, want uint64) {
	t.Helper()
	if got := poly.At(p, x); got != want {
		t.Errorf("At(%d, %d) is %d, not %d", p, x, got, want)
	}
}

func TestAtKnown(t *testing.T) {
	const last, most = api.P - 1, math.MaxUint64 // the remainder of most is 7
	for _, c := range []struct {
		p       []uint64
		x, want uint64
	}{
		{[]uint64{9}, 0, 9}, {[]uint64{9}, 1, 9}, {[]uint64{9}, last, 9}, {[]uint64{9}, api.P, 9}, {[]uint64{9}, most, 9},
		{[]uint64{0}, 5, 0}, {[]uint64{api.P}, 5, 0}, {[]uint64{api.P + 4}, 5, 4}, {[]uint64{most}, most, 7},
		{[]uint64{3, 0, 2}, 0, 3}, {[]uint64{3, 0, 2}, 1, 5}, {[]uint64{3, 0, 2}, 5, 53}, {[]uint64{3, 0, 2}, last, 5},
		{[]uint64{3, 0, 2}, api.P, 3}, {[]uint64{3, 0, 2}, api.P + 5, 53}, {[]uint64{3, 0, 2}, most, 101},
		{[]uint64{1, 2, 3}, 10, 321}, {[]uint64{1, 2, 3}, last, 2}, {[]uint64{0, 1}, last, last}, {[]uint64{0, 0, 1}, last, 1},
		{[]uint64{api.P, api.P + 1, most}, 2, 30}, {[]uint64{last, 1}, 1, 0}, {[]uint64{5, 4, 0, 0}, 3, 17}, {[]uint64{5, 4, api.P}, 3, 17},
	} {
		checkAt(t, c.p, c.x, c.want)
	}
}

func TestAtOfNone(t *testing.T) {
	for _, x := range places() {
		checkAt(t, nil, x, 0)
		checkAt(t, []uint64{}, x, 0)
	}
}

func TestAtAll(t *testing.T) {
	d := draws(2)
	for _, p := range [][]uint64{numbers(), numbers()[:1], numbers()[10:12], d.list(2), d.list(64), d.list(300)} {
		for _, x := range slices.Concat(places(), numbers()) {
			checkAt(t, p, x, plainAt(p, x))
		}
	}
}

type pair struct{ a, b, want []uint64 }

// checkPairs holds a call of two against its answers, whichever stands first.
func checkPairs(t *testing.T, name string, act func(a, b []uint64) []uint64, list []pair) {
	t.Helper()
	for _, c := range list {
		if got := act(c.a, c.b); !slices.Equal(got, c.want) {
			t.Errorf("%s(%d, %d) is %d, not %d", name, c.a, c.b, got, c.want)
		}
		if got := act(c.b, c.a); !slices.Equal(got, c.want) {
			t.Errorf("%s(%d, %d) is %d, not %d", name, c.b, c.a, got, c.want)
		}
	}
}

// some are lists of many lengths, of numbers below P and above it, some with 0 at their end.
func some() [][]uint64 {
	d := draws(3)
	all := numbers()
	return [][]uint64{
		nil, {}, {0}, {1}, {api.P}, {api.P - 1}, {8 * api.P}, {math.MaxUint64}, {0, 0, 0}, {api.P, 0, 2 * api.P},
		{0, 1}, {1, 1}, {api.P - 1, 1}, {1, api.P - 1}, {5, 0, 0, 7}, {5, 0, 0, api.P}, {5, 6, 7, 0, 0},
		all, all[3:9], d.list(2), d.list(7), d.below(8), d.below(64), d.list(100), append(d.list(9), 0, api.P),
	}
}

func checkSome(t *testing.T, name string, act, plain func(a, b []uint64) []uint64, values func(z, a, b *big.Int) *big.Int) {
	t.Helper()
	for _, a := range some() {
		for _, b := range some() {
			got := act(a, b)
			if want := plain(a, b); !slices.Equal(got, want) {
				t.Errorf("%s(%d, %d) is %d, not %d", name, a, b, got, want)
			}
			for _, x := range places() {
				want := remainder(values(new(big.Int), large(poly.At(a, x)), large(poly.At(b, x))))
				if value := poly.At(got, x); value != want {
					t.Errorf("%s(%d, %d) has the value %d at %d, not %d", name, a, b, value, x, want)
				}
			}
		}
	}
}

func TestAddKnown(t *testing.T) {
	const last, most = api.P - 1, math.MaxUint64
	checkPairs(t, "Add", poly.Add, []pair{
		{nil, nil, nil}, {nil, []uint64{}, nil}, {[]uint64{}, []uint64{}, nil},
		{nil, []uint64{1, 2}, []uint64{1, 2}}, {[]uint64{}, []uint64{most, api.P + 2}, []uint64{7, 2}},
		{nil, []uint64{0}, nil}, {nil, []uint64{4, 0, api.P}, []uint64{4}}, {nil, []uint64{api.P, 8 * api.P, 0}, nil},
		{[]uint64{1, 2, 3}, []uint64{10, 20, 30}, []uint64{11, 22, 33}},
		{[]uint64{1}, []uint64{10, 20, 30}, []uint64{11, 20, 30}}, {[]uint64{last}, []uint64{1, 0, 5}, []uint64{0, 0, 5}},
		{[]uint64{3, 0, 2}, []uint64{1, 1, api.P - 2}, []uint64{4, 1}}, {[]uint64{3, 5, 2}, []uint64{1, api.P - 5, api.P - 2}, []uint64{4}},
		{[]uint64{1, last}, []uint64{last, 1}, nil}, {[]uint64{api.P + 1, last}, []uint64{2*api.P - 1, 3*api.P + 1}, nil},
		{[]uint64{last, last}, []uint64{last, last}, []uint64{api.P - 2, api.P - 2}}, {[]uint64{most}, []uint64{most}, []uint64{14}},
		{[]uint64{most, 1}, []uint64{1, most}, []uint64{8, 8}}, {[]uint64{0, 0, 1}, []uint64{0, 0, last}, nil},
	})
}

func TestAddAll(t *testing.T) { checkSome(t, "Add", poly.Add, plainAdd, (*big.Int).Add) }

func TestMulKnown(t *testing.T) {
	const last, most = api.P - 1, math.MaxUint64
	checkPairs(t, "Mul", poly.Mul, []pair{
		{nil, nil, nil}, {nil, []uint64{}, nil}, {[]uint64{}, []uint64{}, nil},
		{nil, []uint64{1, 2}, nil}, {[]uint64{}, []uint64{1, 2}, nil}, {[]uint64{0}, []uint64{1, 2}, nil},
		{[]uint64{3, 0, 2}, []uint64{0, api.P}, nil}, {[]uint64{0, 0}, []uint64{0, 0, 0}, nil}, {[]uint64{8 * api.P}, []uint64{most}, nil},
		{[]uint64{1}, []uint64{5, 6, 7}, []uint64{5, 6, 7}}, {[]uint64{1}, []uint64{most, 0, api.P + 3, api.P}, []uint64{7, 0, 3}},
		{[]uint64{1, 2}, []uint64{3, 4}, []uint64{3, 10, 8}}, {[]uint64{1, 1}, []uint64{1, 1}, []uint64{1, 2, 1}},
		{[]uint64{3, 0, 2}, []uint64{last, 1}, []uint64{api.P - 3, 3, api.P - 2, 2}}, {[]uint64{last, 1}, []uint64{1, 1}, []uint64{last, 0, 1}},
		{[]uint64{1, 2, 0, 0}, []uint64{3, 4, api.P}, []uint64{3, 10, 8}}, {[]uint64{0, 1}, []uint64{0, 0, 1}, []uint64{0, 0, 0, 1}},
		{[]uint64{last}, []uint64{last}, []uint64{1}}, {[]uint64{most}, []uint64{most}, []uint64{49}},
		{[]uint64{api.P + 1, 2*api.P + 2}, []uint64{3*api.P + 3, 4*api.P + 4}, []uint64{3, 10, 8}},
	})
}

func TestMulAll(t *testing.T) { checkSome(t, "Mul", poly.Mul, plainMul, (*big.Int).Mul) }

// checkThrough holds Through and Zero against a polynomial.
func checkThrough(t *testing.T, list []api.Point, want []uint64) {
	t.Helper()
	got, e := poly.Through(list)
	if e != api.OK || !slices.Equal(got, want) {
		t.Errorf("Through(%v) is %d, %d, not %d, OK", list, got, e, want)
	}
	checkPasses(t, list, got)
	if value, e := poly.Zero(list); e != api.OK || value != plainAt(want, 0) {
		t.Errorf("Zero(%v) is %d, %d, not %d, OK", list, value, e, plainAt(want, 0))
	}
}

// checkPasses holds a polynomial against all that makes it the only one.
func checkPasses(t *testing.T, list []api.Point, p []uint64) {
	t.Helper()
	for _, point := range list {
		if value := plainAt(p, uint64(point.At)); value != point.Value {
			t.Errorf("Through(%v) has the value %d at %d, not %d", list, value, point.At, point.Value)
		}
	}
	if n := len(p); n > len(list) || n > 0 && p[n-1] == 0 || slices.ContainsFunc(p, func(n uint64) bool { return n >= api.P }) {
		t.Errorf("Through(%v) is %d: of too many numbers, with 0 at the end, or with one that is no remainder", list, p)
	}
}

func TestThroughKnown(t *testing.T) {
	const last = api.P - 1
	for _, c := range []struct {
		list []api.Point
		want []uint64
	}{
		{[]api.Point{{At: 1, Value: 0}}, nil}, {[]api.Point{{At: 64, Value: 0}}, nil},
		{[]api.Point{{At: 1, Value: 9}}, []uint64{9}}, {[]api.Point{{At: 64, Value: last}}, []uint64{last}},
		{[]api.Point{{At: 1, Value: 0}, {At: 2, Value: 0}, {At: 64, Value: 0}}, nil},
		{[]api.Point{{At: 5, Value: 8}, {At: 2, Value: 8}, {At: 9, Value: 8}}, []uint64{8}},
		{[]api.Point{{At: 1, Value: last}, {At: 64, Value: last}}, []uint64{last}},
		{[]api.Point{{At: 1, Value: 1}, {At: 2, Value: 2}}, []uint64{0, 1}},
		{[]api.Point{{At: 1, Value: last}, {At: 2, Value: api.P - 2}, {At: 3, Value: api.P - 3}}, []uint64{0, last}},
		{[]api.Point{{At: 1, Value: 0}, {At: 2, Value: 1}}, []uint64{last, 1}},
		{[]api.Point{{At: 1, Value: 0}, {At: 3, Value: 1}}, []uint64{1<<60 - 1, 1 << 60}},
		{[]api.Point{{At: 3, Value: 21}, {At: 1, Value: 5}, {At: 7, Value: 101}}, []uint64{3, 0, 2}},
	} {
		checkThrough(t, c.list, c.want)
	}
}

// Every count of points, for polynomials of as many numbers and of all fewer ones.
func TestThroughEachCount(t *testing.T) {
	d := draws(4)
	for _, n := range []int{1, 2, 3, 4, 7, 31, 32, 33, 63, api.MaxDonors} {
		for _, size := range []int{0, 1, 2, n / 2, n - 1, n} {
			if size <= n {
				p := d.below(size)
				checkThrough(t, pointsOf(p, d.places(n)...), p)
			}
		}
	}
}

// Values are anything below P, its ends too: there is always a polynomial.
func TestThroughAnyValues(t *testing.T) {
	d := draws(5)
	for range 40 {
		var list []api.Point
		for _, at := range d.places(1 + int(d.next()%api.MaxDonors)) {
			value := d.next() % api.P
			switch d.next() % 4 {
			case 0:
				value = 0
			case 1:
				value = api.P - 1
			}
			list = append(list, api.Point{At: at, Value: value})
		}
		got, e := poly.Through(list)
		if e != api.OK {
			t.Fatalf("Through(%v) is an error, %d", list, e)
		}
		checkPasses(t, list, got)
		if value, e := poly.Zero(list); e != api.OK || value != plainAt(got, 0) {
			t.Errorf("Zero(%v) is %d, %d, not %d, OK", list, value, e, plainAt(got, 0))
		}
	}
}

func TestThroughAnyOrder(t *testing.T) {
	p := []uint64{api.P - 1, 0, 5, 1 << 60}
	list := pointsOf(p, 2, 64, 1, 33)
	for i := range list {
		for k := range list {
			for m := range list {
				other := slices.Clone(list)
				other[0], other[i] = other[i], other[0]
				other[1], other[k] = other[k], other[1]
				other[2], other[m] = other[m], other[2]
				checkThrough(t, other, p)
			}
		}
	}
	d := draws(6)
	q := d.below(api.MaxDonors)
	all := pointsOf(q, firstPlaces(api.MaxDonors)...)
	checkThrough(t, all, q)
	slices.Reverse(all)
	checkThrough(t, all, q)
}

func checkRefused(t *testing.T, list []api.Point, want api.Errno) {
	t.Helper()
	if got, e := poly.Through(list); e != want || len(got) != 0 {
		t.Errorf("Through(%v) is %d, %d, not no numbers, %d", list, got, e, want)
	}
	if got, e := poly.Zero(list); e != want || got != 0 {
		t.Errorf("Zero(%v) is %d, %d, not 0, %d", list, got, e, want)
	}
}

func TestThroughNoPoints(t *testing.T) {
	checkRefused(t, nil, api.ErrArg)
	checkRefused(t, []api.Point{}, api.ErrArg)
	checkRefused(t, []api.Point{{At: 1, Value: 1}}[:0], api.ErrArg)
}

func TestThroughTooManyPoints(t *testing.T) {
	p := []uint64{4, 5}
	most := pointsOf(p, firstPlaces(api.MaxDonors)...)
	checkThrough(t, most, p)
	// One more has a place out of range, or one that stands there: ErrArg comes ahead of both.
	checkRefused(t, append(slices.Clone(most), api.Point{At: api.MaxDonors + 1, Value: 1}), api.ErrArg)
	checkRefused(t, append(slices.Clone(most), api.Point{At: 0, Value: 1}), api.ErrArg)
	checkRefused(t, append(slices.Clone(most), api.Point{At: 65, Value: api.P}), api.ErrArg)
	checkRefused(t, append(slices.Clone(most), most[63]), api.ErrArg)
	checkRefused(t, append(slices.Clone(most), most...), api.ErrArg)
	checkRefused(t, make([]api.Point, api.MaxDonors+1), api.ErrArg)
	checkRefused(t, pointsOf(p, firstPlaces(5000)...), api.ErrArg)
}

func wrongPlaces() []int {
	return []int{0, -1, -64, api.MaxDonors + 1, api.MaxDonors + 2, 1 << 32, 1<<32 + 1, math.MinInt, math.MinInt + 1, math.MaxInt - 1, math.MaxInt}
}

func wrongValues() []uint64 {
	return []uint64{api.P, api.P + 1, 2*api.P - 1, 2 * api.P, 8 * api.P, 1 << 63, math.MaxUint64 - 1, math.MaxUint64}
}

// checkEachPlace puts a wrong point at each place of good ones, and holds the answer against an error.
func checkEachPlace(t *testing.T, wrong api.Point, want api.Errno) {
	t.Helper()
	checkRefused(t, []api.Point{wrong}, want)
	for i := range 4 {
		list := pointsOf([]uint64{2, 3}, 7, 1, 64)
		checkRefused(t, slices.Insert(list, i, wrong), want)
	}
}

func TestThroughPlaceOutOfRange(t *testing.T) {
	for _, at := range wrongPlaces() {
		checkEachPlace(t, api.Point{At: at, Value: 0}, api.ErrRange)
		checkEachPlace(t, api.Point{At: at, Value: api.P - 1}, api.ErrRange)
		checkEachPlace(t, api.Point{At: at, Value: api.P}, api.ErrRange)
	}
	for at := 1; at <= api.MaxDonors; at++ {
		checkThrough(t, []api.Point{{At: at, Value: 6}}, []uint64{6})
	}
}

func TestThroughValueOutOfRange(t *testing.T) {
	for _, value := range wrongValues() {
		checkEachPlace(t, api.Point{At: 2, Value: value}, api.ErrRange)
	}
	checkThrough(t, []api.Point{{At: 2, Value: api.P - 1}}, []uint64{api.P - 1})
}

func TestThroughOneOfManyOutOfRange(t *testing.T) {
	for i := range api.MaxDonors {
		list := pointsOf([]uint64{2, 3}, firstPlaces(api.MaxDonors)...)
		list[i].Value = api.P
		checkRefused(t, list, api.ErrRange)
		list[i] = api.Point{At: 65, Value: 1}
		checkRefused(t, list, api.ErrRange)
	}
}

// Points that stand twice are an error wherever they stand, with the same value, too.
func TestThroughTwice(t *testing.T) {
	d := draws(7)
	p := d.below(9)
	for i := range api.MaxDonors {
		for k := range i {
			list := pointsOf(p, firstPlaces(api.MaxDonors)...)
			list[i] = list[k]
			checkRefused(t, list, api.ErrArg)
			list[i].Value = (list[i].Value + 1) % api.P
			checkRefused(t, list, api.ErrArg)
		}
	}
	for at := 1; at <= api.MaxDonors; at++ {
		checkRefused(t, []api.Point{{At: at, Value: 3}, {At: at, Value: 3}}, api.ErrArg)
		checkRefused(t, []api.Point{{At: at, Value: 3}, {At: at, Value: 4}}, api.ErrArg)
	}
}

// ErrArg comes first, wherever in the list what makes it stands.
func TestThroughTwiceAndOutOfRange(t *testing.T) {
	for _, value := range []uint64{0, 5, api.P - 1, api.P, math.MaxUint64} {
		twice := []api.Point{{At: 3, Value: 5}, {At: 3, Value: value}}
		for _, at := range wrongPlaces() {
			checkRefused(t, append([]api.Point{{At: at, Value: 5}}, twice...), api.ErrArg)
			checkRefused(t, append(slices.Clone(twice), api.Point{At: at, Value: 5}), api.ErrArg)
			checkRefused(t, []api.Point{{At: at, Value: 5}, {At: at, Value: value}}, api.ErrArg)
			checkRefused(t, []api.Point{{At: at, Value: 5}, {At: 1, Value: 1}, {At: at, Value: value}}, api.ErrArg)
		}
		for _, wrong := range wrongValues() {
			checkRefused(t, append([]api.Point{{At: 1, Value: wrong}}, twice...), api.ErrArg)
			checkRefused(t, append(slices.Clone(twice), api.Point{At: 1, Value: wrong}), api.ErrArg)
		}
	}
	// Places that are the same only by 2^32, by 2^61 - 1 or by 2^6 are not the same.
	checkRefused(t, []api.Point{{At: 3}, {At: 1<<32 + 3}}, api.ErrRange)
	checkRefused(t, []api.Point{{At: 3}, {At: api.P + 3}}, api.ErrRange)
	checkRefused(t, []api.Point{{At: 3}, {At: 64 + 3}}, api.ErrRange)
	checkRefused(t, []api.Point{{At: 3}, {At: -3}}, api.ErrRange)
}

// withRoom is a copy of the list in memory of its own, with marks in its spare room.
func withRoom[T any](list []T, mark T) []T {
	room := make([]T, len(list)+9)
	for i := range room {
		room[i] = mark
	}
	copy(room, list)
	return room[:len(list)]
}

func whole[T any](list []T) []T { return list[:cap(list)] }

func scribble(list []uint64) {
	for i := range whole(list) {
		whole(list)[i] ^= 0x5a5a
	}
}

// checkMemory holds a call of two against R4.
func checkMemory(t *testing.T, name string, act func(a, b []uint64) []uint64) {
	t.Helper()
	for _, one := range some() {
		for _, other := range some() {
			a, b := withRoom(one, 77), withRoom(other, 78)
			wholeA, wholeB := slices.Clone(whole(a)), slices.Clone(whole(b))
			first, second := act(a, b), act(a, b)
			before := slices.Clone(whole(second))
			scribble(first)
			if !slices.Equal(whole(a), wholeA) || !slices.Equal(whole(b), wholeB) {
				t.Errorf("%s(%d, %d) changes what is handed in, or answers its memory", name, one, other)
			}
			scribble(a)
			scribble(b)
			if !slices.Equal(whole(second), before) {
				t.Errorf("%s(%d, %d) answers the same memory twice, or what was handed in", name, one, other)
			}
			if third := act(one, other); !slices.Equal(third, second) {
				t.Errorf("%s(%d, %d) is %d the second time, not %d", name, one, other, third, second)
			}
		}
	}
}

func TestAddMemory(t *testing.T) { checkMemory(t, "Add", poly.Add) }

func TestMulMemory(t *testing.T) { checkMemory(t, "Mul", poly.Mul) }

func TestOneListTwice(t *testing.T) {
	a := withRoom([]uint64{1, api.P - 1, math.MaxUint64}, 77)
	before := slices.Clone(whole(a))
	if got := poly.Add(a, a); !slices.Equal(got, []uint64{2, api.P - 2, 14}) {
		t.Errorf("Add of one list twice is %d", got)
	}
	if got := poly.Mul(a, a); !slices.Equal(got, []uint64{1, api.P - 2, 15, api.P - 14, 49}) {
		t.Errorf("Mul of one list twice is %d", got)
	}
	if !slices.Equal(whole(a), before) {
		t.Errorf("the list is %d now", a)
	}
}

func TestAtMemory(t *testing.T) {
	for _, list := range some() {
		p := withRoom(list, 77)
		before := slices.Clone(whole(p))
		for _, x := range places() {
			poly.At(p, x)
		}
		if !slices.Equal(whole(p), before) {
			t.Errorf("At changes %d to %d", list, p)
		}
	}
}

func TestThroughMemory(t *testing.T) {
	d := draws(8)
	for _, plain := range [][]api.Point{
		nil, {{At: 9, Value: 0}}, {{At: 9, Value: 4}}, {{At: 2, Value: 1}, {At: 1, Value: 5}}, {{At: 2, Value: 1}, {At: 2, Value: 5}},
		{{At: 3, Value: 1}, {At: 0, Value: 5}}, {{At: 3, Value: api.P + 1}, {At: 1, Value: 5}}, make([]api.Point, api.MaxDonors+1),
		pointsOf(d.below(30), d.places(40)...), pointsOf(d.below(api.MaxDonors), d.places(api.MaxDonors)...),
	} {
		list := withRoom(plain, api.Point{At: 77, Value: 78})
		wholeList := slices.Clone(whole(list))
		first, _ := poly.Through(list)
		second, _ := poly.Through(list)
		zero, e := poly.Zero(list)
		before := slices.Clone(whole(second))
		scribble(first)
		if !slices.Equal(whole(list), wholeList) {
			t.Errorf("Through or Zero changes %v to %v", plain, list)
		}
		if !slices.Equal(whole(second), before) {
			t.Errorf("Through(%v) answers the same memory twice", plain)
		}
		clear(whole(list))
		if third, _ := poly.Through(plain); !slices.Equal(third, second) {
			t.Errorf("Through(%v) is %d the second time, not %d", plain, third, second)
		}
		if again, f := poly.Zero(plain); again != zero || f != e {
			t.Errorf("Zero(%v) is %d, %d the second time, not %d, %d", plain, again, f, zero, e)
		}
	}
}
