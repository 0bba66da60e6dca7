package crowd_test

import (
	"math"
	"slices"
	"testing"

	"offertory/api"
	"offertory/crowd"
)

const (
	donors  = 64
	highest = 1 << 63 // donor 64 alone
	full    = math.MaxUint64
)

// draws are numbers that look drawn; each call has another.
type draws uint64

func (d *draws) next() uint64 {
	*d = *d*6364136223846793005 + 1442695040888963407
	return uint64(*d) ^ uint64(*d)>>29
}

func (d *draws) below(n int) int { return int(d.next() >> 8 % uint64(n)) }

// donors are so many of them, each once, in any order.
func (d *draws) donors(n int) []int {
	all := from(1, donors)
	for i := range n {
		j := i + d.below(donors-i)
		all[i], all[j] = all[j], all[i]
	}
	return all[:n:n]
}

func from(first, last int) []int {
	var list []int
	for n := first; n <= last; n++ {
		list = append(list, n)
	}
	return list
}

func falling(list []int) []int {
	list = slices.Clone(list)
	slices.Reverse(list)
	return list
}

// powers has donor n's bit at n, by doubling.
func powers() [donors + 1]uint64 {
	var list [donors + 1]uint64
	for n, bit := 1, uint64(1); n <= donors; n++ {
		list[n] = bit
		bit += bit
	}
	return list
}

// plainOf adds up powers of 2; its list has each donor once.
func plainOf(list []int) uint64 {
	sum, bits := uint64(0), powers()
	for _, n := range list {
		sum += bits[n]
	}
	return sum
}

// plainList takes powers of 2 away, the greatest first.
func plainList(c uint64) []int {
	var list []int
	bits := powers()
	for n := donors; n >= 1; n-- {
		if c >= bits[n] {
			c -= bits[n]
			list = append(list, n)
		}
	}
	slices.Reverse(list)
	return list
}

func plainWithin(a, b uint64) bool {
	for _, n := range plainList(a) {
		if !slices.Contains(plainList(b), n) {
			return false
		}
	}
	return true
}

// noDonors are numbers that no donor has: of some, the lowest bits would be fine.
func noDonors() []int {
	return []int{
		math.MinInt, math.MinInt + 1, math.MinInt + 3, math.MinInt32, -256, -255, -65, -64, -63, -2, -1, 0,
		donors + 1, donors + 2, 127, 128, 129, 255, 256, 257, 1<<16 + 1, math.MaxInt32, math.MaxUint32, 1<<32 + 1, 1<<56 + 3, math.MaxInt - 62, math.MaxInt - 1, math.MaxInt,
	}
}

// sets are none, all, single ones and all but one, both ends, pieces, halves, and drawn ones: few, some and many.
func sets() []uint64 {
	list := []uint64{0, full, 1 | highest, 3, 5, 7, 1<<32 - 1, 1<<32 - 1<<16, full - (1<<32 - 1), full >> 1, full - 3, 0x5555555555555555, 0xaaaaaaaaaaaaaaaa, highest | 1<<31, 1<<31 | 1<<32}
	for _, bit := range powers() {
		list = append(list, bit, full-bit, bit|1, bit|highest)
	}
	d := draws(1)
	for range 100 {
		a, b := d.next(), d.next()
		list = append(list, a, a&b, a|b, a|1, a|highest, a&b&d.next(), a|b|d.next())
	}
	return list
}

// numbers are all donors' and some that no donor has.
func numbers() []int { return append(from(-130, 300), noDonors()...) }

func checkOf(t *testing.T, list []int, want uint64, wantError api.Errno) {
	t.Helper()
	if c, e := crowd.Of(list); c != want || e != wantError {
		t.Errorf("Of(%v) is %x, %d, not %x, %d", list, c, e, want, wantError)
	}
}

func checkList(t *testing.T, c uint64, want []int) {
	t.Helper()
	if list := crowd.List(c); !slices.Equal(list, want) {
		t.Errorf("List(%x) is %v, not %v", c, list, want)
	}
}

func TestOfKnown(t *testing.T) {
	for _, c := range []struct {
		list []int
		want uint64
	}{
		{nil, 0}, {[]int{}, 0}, {make([]int, 0, 9), 0}, {from(1, 9)[:0], 0},
		{[]int{1}, 1}, {[]int{2}, 2}, {[]int{3}, 4}, {[]int{63}, 1 << 62}, {[]int{64}, 1 << 63}, {[]int{33}, 1 << 32},
		{[]int{1, 2}, 3}, {[]int{2, 1}, 3}, {[]int{1, 3}, 5}, {[]int{64, 3, 1}, 1<<63 + 5}, {[]int{1, 64}, 1<<63 + 1}, {[]int{4, 2, 3}, 14},
		{from(1, 64), full}, {falling(from(1, 64)), full}, {from(2, 64), full - 1}, {from(1, 63), full >> 1}, {from(1, 32), 1<<32 - 1}, {from(33, 64), full - (1<<32 - 1)},
	} {
		checkOf(t, c.list, c.want, api.OK)
	}
}

func TestOfEachDonor(t *testing.T) {
	bits := powers()
	for a := 1; a <= donors; a++ {
		checkOf(t, []int{a}, bits[a], api.OK)
		for b := 1; b <= donors; b++ {
			if a == b {
				checkOf(t, []int{a, b}, 0, api.ErrThere)
			} else {
				checkOf(t, []int{a, b}, bits[a]+bits[b], api.OK)
			}
		}
	}
}

// Lists of any length, in any order.
func TestOfMany(t *testing.T) {
	d := draws(2)
	for n := range donors + 1 {
		for range 20 {
			list := d.donors(n)
			want := plainOf(list)
			checkOf(t, list, want, api.OK)
			slices.Sort(list)
			checkOf(t, list, want, api.OK)
			checkOf(t, falling(list), want, api.OK)
		}
	}
}

// Numbers that lie behind the list's end are none of it.
func TestSpareRoom(t *testing.T) {
	room := append(from(1, 64), 3, 3, 0, -1, 99)
	for n := range donors + 1 {
		checkOf(t, room[:n], plainOf(from(1, n)), api.OK)
	}
}

// A number that is no donor's at each place of lists of all lengths.
func TestOfNoDonor(t *testing.T) {
	d := draws(3)
	for _, bad := range noDonors() {
		checkOf(t, []int{bad}, 0, api.ErrRange)
		for n := range donors + 1 {
			list := d.donors(n)
			for _, at := range []int{0, n / 2, n} {
				checkOf(t, slices.Insert(slices.Clone(list), at, bad), 0, api.ErrRange)
			}
		}
		for _, other := range noDonors() {
			checkOf(t, []int{bad, other}, 0, api.ErrRange)
			checkOf(t, []int{bad, 5, other}, 0, api.ErrRange)
			checkOf(t, []int{5, bad, 6, other, 7}, 0, api.ErrRange)
		}
	}
}

// A number twice, at each two places of lists of all lengths, and three times.
func TestOfTwice(t *testing.T) {
	d := draws(4)
	for n := 1; n <= donors; n++ {
		list := d.donors(n)
		for _, who := range []int{list[0], list[n/2], list[n-1]} {
			for at := range n + 1 {
				checkOf(t, slices.Insert(slices.Clone(list), at, who), 0, api.ErrThere)
			}
			checkOf(t, slices.Insert(append(slices.Clone(list), who), 0, who), 0, api.ErrThere)
		}
	}
	for who := 1; who <= donors; who++ {
		other := who%donors + 1
		for _, list := range [][]int{
			{who, who}, {who, who, who}, {who, other, who}, {other, who, who}, {who, who, other}, {who, other, who, other}, {who, who, other, other},
		} {
			checkOf(t, list, 0, api.ErrThere)
		}
	}
}

// Both at once: what is no donor's is told of, ahead of it, between and behind, also where it is what is there twice.
func TestOfNoDonorAndTwice(t *testing.T) {
	for _, bad := range noDonors() {
		for _, who := range []int{1, 2, 32, 63, 64} {
			for _, list := range [][]int{
				{bad, who, who}, {who, bad, who}, {who, who, bad}, {who, who, who, bad}, {bad, bad, who, who}, {who, who, bad, bad}, {who, bad, who, bad}, {5, who, who, 7, bad, 9},
			} {
				checkOf(t, list, 0, api.ErrRange)
			}
			checkOf(t, append([]int{bad, who}, from(1, donors)...), 0, api.ErrRange)
			checkOf(t, append(from(1, donors), who, bad), 0, api.ErrRange)
		}
		checkOf(t, []int{bad, bad}, 0, api.ErrRange)
		checkOf(t, []int{bad, bad, bad}, 0, api.ErrRange)
		checkOf(t, []int{bad, 3, bad}, 0, api.ErrRange)
	}
}

// Of more than 64 numbers one is there twice, or is no donor's.
func TestOfLong(t *testing.T) {
	for who := 1; who <= donors; who++ {
		checkOf(t, append(from(1, donors), who), 0, api.ErrThere)
		checkOf(t, append([]int{who}, from(1, donors)...), 0, api.ErrThere)
		checkOf(t, slices.Repeat([]int{who}, 65), 0, api.ErrThere)
		checkOf(t, slices.Repeat([]int{who}, 100000), 0, api.ErrThere)
	}
	checkOf(t, append(from(1, donors), from(1, donors)...), 0, api.ErrThere)
	checkOf(t, from(1, donors+1), 0, api.ErrRange)
	checkOf(t, from(0, donors), 0, api.ErrRange)
	checkOf(t, from(0, donors-1), 0, api.ErrRange)
	checkOf(t, from(1, 100000), 0, api.ErrRange)
	checkOf(t, make([]int, 100000), 0, api.ErrRange)
	for _, bad := range noDonors() {
		checkOf(t, append(from(1, donors), bad), 0, api.ErrRange)
		checkOf(t, append(slices.Repeat([]int{7}, 70000), bad), 0, api.ErrRange)
		checkOf(t, append([]int{bad}, slices.Repeat([]int{7}, 70000)...), 0, api.ErrRange)
	}
}

func TestListKnown(t *testing.T) {
	for _, c := range []struct {
		c    uint64
		want []int
	}{
		{0, nil}, {1, []int{1}}, {2, []int{2}}, {3, []int{1, 2}}, {4, []int{3}}, {5, []int{1, 3}}, {6, []int{2, 3}}, {7, []int{1, 2, 3}},
		{1 << 62, []int{63}}, {1 << 63, []int{64}}, {1<<63 + 1, []int{1, 64}}, {3 << 62, []int{63, 64}}, {1<<63 + 5, []int{1, 3, 64}}, {1<<32 + 1<<31, []int{32, 33}},
		{full, from(1, 64)}, {full - 1, from(2, 64)}, {full >> 1, from(1, 63)}, {1<<32 - 1, from(1, 32)}, {full - (1<<32 - 1), from(33, 64)},
	} {
		checkList(t, c.c, c.want)
	}
	for n, bit := range powers() {
		if n > 0 {
			checkList(t, bit, []int{n})
		}
	}
}

func TestListAndSize(t *testing.T) {
	for _, c := range sets() {
		want := plainList(c)
		checkList(t, c, want)
		if n := crowd.Size(c); n != len(want) {
			t.Errorf("Size(%x) is %d, not %d", c, n, len(want))
		}
	}
}

func TestSizeKnown(t *testing.T) {
	for _, c := range []struct {
		c    uint64
		want int
	}{{0, 0}, {1, 1}, {2, 1}, {3, 2}, {1 << 63, 1}, {1<<63 + 1, 2}, {full, 64}, {full - 1, 63}, {full >> 1, 63}, {1<<32 - 1, 32}, {full - (1<<32 - 1), 32}, {0x5555555555555555, 32}} {
		if n := crowd.Size(c.c); n != c.want {
			t.Errorf("Size(%x) is %d, not %d", c.c, n, c.want)
		}
	}
}

// What follows: a set's donors rise, and the set of them is it again.
func TestThereAndBack(t *testing.T) {
	for _, c := range sets() {
		list := crowd.List(c)
		for i, n := range list {
			if n < 1 || n > donors || i > 0 && n <= list[i-1] {
				t.Errorf("List(%x) does not rise: %v", c, list)
			}
		}
		checkOf(t, list, c, api.OK)
	}
	d := draws(5)
	for n := range donors + 1 {
		list := d.donors(n)
		c, _ := crowd.Of(list)
		slices.Sort(list)
		checkList(t, c, list)
	}
}

func TestHas(t *testing.T) {
	for _, c := range sets() {
		list := plainList(c)
		for _, n := range numbers() {
			if has := crowd.Has(c, n); has != slices.Contains(list, n) {
				t.Errorf("Has(%x, %d) is %t", c, n, has)
			}
		}
	}
}

func TestHasNoDonor(t *testing.T) {
	for _, n := range noDonors() {
		for _, c := range []uint64{0, 1, highest, 1 | highest, full, full - 1, full >> 1} {
			if crowd.Has(c, n) {
				t.Errorf("Has(%x, %d)", c, n)
			}
		}
	}
	for n := 1; n <= donors; n++ {
		if !crowd.Has(full, n) || crowd.Has(0, n) {
			t.Errorf("Has(all, %d) is %t, and Has(none, %d) is %t", n, crowd.Has(full, n), n, crowd.Has(0, n))
		}
	}
}

func checkWithin(t *testing.T, a, b uint64, want bool) {
	t.Helper()
	if got := crowd.Within(a, b); got != want {
		t.Errorf("Within(%x, %x) is %t, not %t", a, b, got, want)
	}
}

func TestWithinKnown(t *testing.T) {
	for _, c := range []struct {
		a, b uint64
		want bool
	}{
		{0, 0, true}, {0, 1, true}, {1, 0, false}, {1, 1, true}, {1, 2, false}, {2, 1, false}, {5, 7, true}, {7, 5, false}, {5, 6, false}, {6, 5, false}, {2, 4, false}, {3, 4, false},
		{highest, highest, true}, {highest, full, true}, {full, highest, false}, {highest, full >> 1, false}, {full >> 1, highest, false}, {1, highest, false}, {1, highest | 1, true},
		{0, full, true}, {full, full, true}, {full, 0, false}, {full - 1, full, true}, {full, full - 1, false}, {full >> 1, full, true}, {full, full >> 1, false},
	} {
		checkWithin(t, c.a, c.b, c.want)
	}
}

// A set in itself, none in it, it in all; with one donor more and with one fewer, and what is beside it.
func TestWithinNear(t *testing.T) {
	for _, c := range sets() {
		checkWithin(t, c, c, true)
		checkWithin(t, 0, c, true)
		checkWithin(t, c, full, true)
		checkWithin(t, c, 0, c == 0)
		checkWithin(t, full, c, c == full)
		checkWithin(t, c, full-c, c == 0)
		checkWithin(t, full-c, c, c == full)
		for n, bit := range powers() {
			if n == 0 {
				continue
			}
			with, without, there := c, c, slices.Contains(plainList(c), n)
			if there {
				without -= bit
			} else {
				with += bit
			}
			checkWithin(t, c, with, true)
			checkWithin(t, with, c, there)
			checkWithin(t, without, c, true)
			checkWithin(t, c, without, !there)
		}
	}
}

func TestWithinMany(t *testing.T) {
	d := draws(6)
	for range 3000 {
		a, b := d.next(), d.next()
		for _, other := range []uint64{b, a & b, a | b, a ^ b} {
			checkWithin(t, a, other, plainWithin(a, other))
			checkWithin(t, other, a, plainWithin(other, a))
		}
	}
}

func TestAll(t *testing.T) {
	for _, c := range []struct {
		n    int
		want uint64
	}{
		{math.MinInt, 0}, {math.MinInt + 1, 0}, {-1 << 32, 0}, {-64, 0}, {-1, 0}, {0, 0}, {1, 1}, {2, 3}, {3, 7}, {32, 1<<32 - 1}, {33, 1<<33 - 1}, {62, full >> 2}, {63, full >> 1}, {64, full},
		{65, full}, {66, full}, {127, full}, {128, full}, {129, full}, {1 << 32, full}, {1<<32 + 1, full}, {math.MaxInt - 1, full}, {math.MaxInt, full},
	} {
		if got := crowd.All(c.n); got != c.want {
			t.Errorf("All(%d) is %x, not %x", c.n, got, c.want)
		}
	}
	for _, n := range numbers() {
		if got, want := crowd.All(n), plainOf(from(1, min(n, donors))); got != want {
			t.Errorf("All(%d) is %x, not %x", n, got, want)
		}
	}
}

// withRoom has spare room behind the list, in which something stands.
func withRoom(list []int) []int {
	room := append(slices.Clone(list), -7, 0, 3, 64, 99)
	return room[:len(list)]
}

func whole(list []int) []int { return list[:cap(list)] }

func TestInputsStay(t *testing.T) {
	d := draws(7)
	lists := [][]int{nil, {}, {1}, {64, 3, 1}, {3, 3}, {3, 2, 3}, {0}, {2, 2, 99}, {5, 99, 4}, from(1, 64), falling(from(1, 65)), slices.Repeat([]int{7}, 70)}
	for n := range donors + 1 {
		lists = append(lists, d.donors(n))
	}
	for _, list := range lists {
		given := withRoom(list)
		before := slices.Clone(whole(given))
		crowd.Of(given)
		if !slices.Equal(whole(given), before) {
			t.Errorf("Of changed %v to %v", before, whole(given))
		}
	}
}

// fill writes over an answer, spare room included.
func fill(list []int) {
	for i := range whole(list) {
		whole(list)[i] = -77
	}
}

// Whoever writes over an answer changes no other one, neither an earlier nor a later.
func TestListsAreApart(t *testing.T) {
	for _, c := range sets() {
		want := plainList(c)
		first, second := crowd.List(c), crowd.List(c)
		fill(first)
		if !slices.Equal(second, want) {
			t.Errorf("writing over List(%x) made another one %v", c, second)
		}
		checkList(t, c, want)
		_ = append(second, 5, 6, 7)
		fill(second)
		checkList(t, c, want)
	}
}

// Nothing is kept: other calls, with errors too, change no answer, and a list that was changed is looked at again.
func TestNothingIsKept(t *testing.T) {
	d, list := draws(8), []int{64, 3, 1}
	for range 500 {
		other := d.donors(d.below(donors + 1))
		crowd.Of(other)
		crowd.Of(append(other, oneOf(&d, noDonors())))
		crowd.Of(append(other, oneOf(&d, numbers())))
		crowd.List(d.next())
		crowd.Has(d.next(), oneOf(&d, numbers()))
		crowd.All(oneOf(&d, numbers()))
		crowd.Within(d.next(), d.next())
		checkOf(t, list, highest+5, api.OK)
		checkOf(t, nil, 0, api.OK)
		checkList(t, highest+5, []int{1, 3, 64})
		checkList(t, 0, nil)
		checkWithin(t, 5, highest+5, true)
	}
	list[0] = 2
	checkOf(t, list, 7, api.OK)
	list[0] = 3
	checkOf(t, list, 0, api.ErrThere)
	list[0] = 0
	checkOf(t, list, 0, api.ErrRange)
}

func oneOf(d *draws, list []int) int { return list[d.below(len(list))] }
