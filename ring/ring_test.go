package ring_test

import (
	"math"
	"slices"
	"testing"

	"offertory/api"
	"offertory/ring"
)

const top = math.MaxUint32

// modulus is 2^32, for sums that are worked out without going round.
const modulus = 1 << 32

// numbers are the ends, the middle with what stands beside it, and some in between.
func numbers() []uint32 {
	list := []uint32{
		0, 1, 2, 3, 37, 1000, 1<<16 - 1, 1 << 16,
		1<<31 - 1, 1 << 31, 1<<31 + 1, top - 2, top - 1, top,
	}
	n := uint32(1)
	for range 20 {
		n = n*1664525 + 1013904223
		list = append(list, n)
	}
	return list
}

// everyPair is two vectors in which every two of the numbers stand against each other once.
func everyPair() (a, b []uint32) {
	for _, x := range numbers() {
		for _, y := range numbers() {
			a, b = append(a, x), append(b, y)
		}
	}
	return a, b
}

func check(t *testing.T, name string, got []uint32, e api.Errno, want []uint32) {
	t.Helper()
	if e != api.OK || !slices.Equal(got, want) {
		t.Errorf("%s is %v, %d, not %v, OK", name, got, e, want)
	}
}

func checkRefused(t *testing.T, name string, got []uint32, e api.Errno) {
	t.Helper()
	if e != api.ErrArg || len(got) != 0 {
		t.Errorf("%s is %v, %d, not no numbers, ErrArg", name, got, e)
	}
}

type pair struct{ a, b, want []uint32 }

func checkPairs(t *testing.T, name string, act func(a, b []uint32) ([]uint32, api.Errno), list []pair) {
	t.Helper()
	for _, c := range list {
		got, e := act(c.a, c.b)
		check(t, name, got, e, c.want)
	}
}

// checkEveryPair holds a call against the same on numbers that don't go round.
func checkEveryPair(t *testing.T, name string, act func(a, b []uint32) ([]uint32, api.Errno), exact func(a, b int64) int64) {
	t.Helper()
	a, b := everyPair()
	got, e := act(a, b)
	if e != api.OK || len(got) != len(a) {
		t.Fatalf("%s answers %d numbers, %d, not %d, OK", name, len(got), e, len(a))
	}
	for i := range a {
		want := (exact(int64(a[i]), int64(b[i])) + modulus) % modulus
		if int64(got[i]) != want {
			t.Errorf("%s of %d and %d is %d, not %d", name, a[i], b[i], got[i], want)
		}
	}
}

// checkUnlike holds a call of two vectors against ErrArg for all counts that differ.
func checkUnlike(t *testing.T, name string, act func(a, b []uint32) ([]uint32, api.Errno)) {
	t.Helper()
	room := []uint32{1, 2, 3, 4, 5}
	for n := range room {
		for m := range room {
			got, e := act(room[:n], room[:m])
			if n != m {
				checkRefused(t, name, got, e)
			} else if e != api.OK || len(got) != n {
				t.Errorf("%s of %d and %d numbers is %v, %d", name, n, m, got, e)
			}
		}
	}
	got, e := act(nil, []uint32{0})
	checkRefused(t, name, got, e)
	got, e = act([]uint32{0}, nil)
	checkRefused(t, name, got, e)
}

// edges are the vectors without numbers, that all calls of two answer alike.
func edges() []pair {
	return []pair{{nil, nil, nil}, {nil, []uint32{}, nil}, {[]uint32{}, nil, nil}, {[]uint32{}, []uint32{}, nil}}
}

func TestAdd(t *testing.T) {
	checkPairs(t, "Add", ring.Add, append(edges(),
		pair{[]uint32{1, 2, 3}, []uint32{10, 20, 30}, []uint32{11, 22, 33}},
		pair{[]uint32{0}, []uint32{0}, []uint32{0}},
		pair{[]uint32{top, top - 1, top}, []uint32{0, 1, 1}, []uint32{top, top, 0}},
		pair{[]uint32{top, 1 << 31, 1<<31 - 1}, []uint32{top, 1 << 31, 1 << 31}, []uint32{top - 1, 0, top}},
		// What goes round in one place is carried into no other one.
		pair{[]uint32{0, top, 0}, []uint32{0, 2, 0}, []uint32{0, 1, 0}},
	))
	checkEveryPair(t, "Add", ring.Add, func(a, b int64) int64 { return a + b })
}

func TestSub(t *testing.T) {
	checkPairs(t, "Sub", ring.Sub, append(edges(),
		pair{[]uint32{11, 22, 33}, []uint32{10, 20, 30}, []uint32{1, 2, 3}},
		pair{[]uint32{0}, []uint32{0}, []uint32{0}},
		pair{[]uint32{0, 0, 0}, []uint32{1, top, 1 << 31}, []uint32{top, 1, 1 << 31}},
		pair{[]uint32{top, top, 5}, []uint32{top, 0, 7}, []uint32{0, top, top - 1}},
		pair{[]uint32{0, 0, 0}, []uint32{0, 1, 0}, []uint32{0, top, 0}},
	))
	checkEveryPair(t, "Sub", ring.Sub, func(a, b int64) int64 { return a - b })
}

func TestAddOfUnlikeCounts(t *testing.T) { checkUnlike(t, "Add", ring.Add) }

func TestSubOfUnlikeCounts(t *testing.T) { checkUnlike(t, "Sub", ring.Sub) }

func TestOneVectorTwice(t *testing.T) {
	a := []uint32{1, 1 << 31, top}
	got, e := ring.Add(a, a)
	check(t, "Add(a, a)", got, e, []uint32{2, 0, top - 1})
	got, e = ring.Sub(a, a)
	check(t, "Sub(a, a)", got, e, []uint32{0, 0, 0})
	got, e = ring.Sum(3, a, a, a)
	check(t, "Sum(3, a, a, a)", got, e, []uint32{3, 1 << 31, top - 2})
	check(t, "a", a, api.OK, []uint32{1, 1 << 31, top})
}

func TestNeg(t *testing.T) {
	for _, c := range []struct{ a, want []uint32 }{
		{nil, nil}, {[]uint32{}, nil}, {[]uint32{0}, []uint32{0}},
		{[]uint32{1, 2, 1000}, []uint32{top, top - 1, top - 999}},
		{[]uint32{top, 1 << 31, 1<<31 - 1, 0}, []uint32{1, 1 << 31, 1<<31 + 1, 0}},
	} {
		check(t, "Neg", ring.Neg(c.a), api.OK, c.want)
	}
	list := numbers()
	got, e := ring.Add(list, ring.Neg(list))
	check(t, "Add(a, Neg(a))", got, e, make([]uint32, len(list)))
}

func TestSum(t *testing.T) {
	for _, c := range []struct {
		n    int
		list [][]uint32
		want []uint32
	}{
		{3, [][]uint32{{1, 2, 3}}, []uint32{1, 2, 3}},
		{3, [][]uint32{{1, 2, 3}, {10, 20, 30}}, []uint32{11, 22, 33}},
		{2, [][]uint32{{1, 2}, {10, 20}, {100, 200}, {1000, 2000}}, []uint32{1111, 2222}},
		{1, [][]uint32{{top}, {1}}, []uint32{0}},
		{2, [][]uint32{{top, 0}, {top, 0}, {top, 1}}, []uint32{top - 2, 1}},
		{3, [][]uint32{{0, top, 0}, {0, 2, 0}}, []uint32{0, 1, 0}},
		{0, nil, nil}, {0, [][]uint32{}, nil}, {0, [][]uint32{nil}, nil}, {0, [][]uint32{{}, nil, {}}, nil},
		{1, nil, []uint32{0}}, {4, [][]uint32{}, []uint32{0, 0, 0, 0}},
	} {
		got, e := ring.Sum(c.n, c.list...)
		check(t, "Sum", got, e, c.want)
	}
	got, e := ring.Sum(5)
	check(t, "Sum(5)", got, e, []uint32{0, 0, 0, 0, 0})
}

func TestSumOfNoneIsZeros(t *testing.T) {
	for _, n := range []int{0, 1, 2, api.MaxLen, 1 << 16} {
		got, e := ring.Sum(n)
		if e != api.OK || len(got) != n || slices.ContainsFunc(got, func(x uint32) bool { return x != 0 }) {
			t.Errorf("Sum(%d) is %d numbers, %d, not as many times 0, OK", n, len(got), e)
		}
	}
}

// Each vector is a number further on than the one before, so that the sum goes round often, by another way in each place.
func TestSumOfMany(t *testing.T) {
	base := numbers()
	n, count := len(base), 1000
	list, want := make([][]uint32, count), make([]uint64, n)
	for k := range list {
		list[k] = make([]uint32, n)
		for i := range n {
			list[k][i] = base[(i+k)%n]
			want[i] = (want[i] + uint64(base[(i+k)%n])) % modulus
		}
	}
	got, e := ring.Sum(n, list...)
	if e != api.OK || len(got) != n {
		t.Fatalf("Sum answers %d numbers, %d, not %d, OK", len(got), e, n)
	}
	for i := range got {
		if uint64(got[i]) != want[i] {
			t.Errorf("number %d is %d, not %d", i, got[i], want[i])
		}
	}
}

func TestSumRefused(t *testing.T) {
	two, three := []uint32{1, 2}, []uint32{1, 2, 3}
	for _, c := range []struct {
		n    int
		list [][]uint32
	}{
		{-1, nil}, {-1, [][]uint32{nil}}, {-2, [][]uint32{two}}, {math.MinInt, nil}, {math.MinInt, [][]uint32{two}},
		{2, [][]uint32{three}}, {3, [][]uint32{two}}, {0, [][]uint32{two}}, {2, [][]uint32{nil}}, {2, [][]uint32{{}}},
		{2, [][]uint32{three, two, two}}, {2, [][]uint32{two, three, two}}, {2, [][]uint32{two, two, three}},
		{3, [][]uint32{three, two}}, {0, [][]uint32{nil, {}, {0}}}, {1, [][]uint32{{0}, nil}},
		{math.MaxInt, [][]uint32{two}}, {math.MaxInt32, [][]uint32{nil}},
		// More than any answer may have: nothing is promised, but the call must answer.
		{math.MaxInt, nil}, {math.MaxInt / 4, nil}, {math.MaxInt32 + 1, nil},
	} {
		got, e := ring.Sum(c.n, c.list...)
		checkRefused(t, "Sum", got, e)
	}
}

// roomy is a vector with spare room behind it, and the whole of what it lies in.
func roomy(list ...uint32) (v, whole []uint32) {
	whole = append(slices.Clone(list), 71, 72, 73, 74, 75, 76, 77, 78)
	return whole[:len(list)], whole
}

// spoil writes into all that an answer has, spare room included.
func spoil(v []uint32) {
	v = v[:cap(v)]
	for i := range v {
		v[i] = 999
	}
}

// call is a call at vectors of equal counts.
type call struct {
	name string
	run  func(a, b []uint32) []uint32
}

func calls() []call {
	first := func(v []uint32, _ api.Errno) []uint32 { return v }
	return []call{
		{"Add", func(a, b []uint32) []uint32 { return first(ring.Add(a, b)) }},
		{"Sub", func(a, b []uint32) []uint32 { return first(ring.Sub(a, b)) }},
		{"Neg", func(a, _ []uint32) []uint32 { return ring.Neg(a) }},
		{"Sum of none", func(a, _ []uint32) []uint32 { return first(ring.Sum(len(a))) }},
		{"Sum of one", func(a, _ []uint32) []uint32 { return first(ring.Sum(len(a), a)) }},
		{"Sum of two", func(a, b []uint32) []uint32 { return first(ring.Sum(len(a), a, b)) }},
		{"Sum of nothing and two", func(a, b []uint32) []uint32 {
			return first(ring.Sum(len(a), make([]uint32, len(a)), a, b))
		}},
	}
}

func TestMemory(t *testing.T) {
	for _, c := range calls() {
		for _, list := range [][]uint32{{}, {0}, {0, 0, 0}, {1, top, 1 << 31}} {
			a, wholeA := roomy(list...)
			b, wholeB := roomy(list...)
			oldA, oldB := slices.Clone(wholeA), slices.Clone(wholeB)
			one, other := c.run(a, b), c.run(a, b)
			want := slices.Clone(other)
			spoil(one)
			if !slices.Equal(wholeA, oldA) || !slices.Equal(wholeB, oldB) {
				t.Errorf("%s of %v changes what is handed in, or shares memory with it: %v, %v", c.name, list, wholeA, wholeB)
			}
			spoil(wholeA)
			spoil(wholeB)
			if !slices.Equal(other, want) {
				t.Errorf("%s of %v: an answer changes with another, or with what was handed in: %v, not %v", c.name, list, other, want)
			}
		}
	}
}

func TestRefusedChangesNothing(t *testing.T) {
	a, wholeA := roomy(1, 2, 3)
	b, wholeB := roomy(4, 5)
	oldA, oldB := slices.Clone(wholeA), slices.Clone(wholeB)
	ring.Add(a, b)
	ring.Add(b, a)
	ring.Sub(a, b)
	ring.Sub(b, a)
	ring.Sum(3, a, a, b)
	ring.Sum(-1, a, b)
	if !slices.Equal(wholeA, oldA) || !slices.Equal(wholeB, oldB) {
		t.Errorf("what is handed in has become %v, %v", wholeA, wholeB)
	}
}

func TestSumLeavesItsList(t *testing.T) {
	a, b, spare := []uint32{1, 2}, []uint32{3, 4}, []uint32{5, 6}
	whole := [][]uint32{a, b, spare}
	got, e := ring.Sum(2, whole[:2]...)
	check(t, "Sum", got, e, []uint32{4, 6})
	spoil(got)
	for i, want := range [][]uint32{{1, 2}, {3, 4}, {5, 6}} {
		if !slices.Equal(whole[i], want) {
			t.Errorf("vector %d of the list has become %v", i, whole[i])
		}
	}
	if &whole[0][0] != &a[0] || &whole[1][0] != &b[0] || &whole[2][0] != &spare[0] {
		t.Error("the list has other vectors")
	}
}

func TestNothingIsKept(t *testing.T) {
	for range 3 {
		got, e := ring.Sum(2, []uint32{1, 2}, []uint32{3, 4})
		check(t, "Sum", got, e, []uint32{4, 6})
		spoil(got)
		got, e = ring.Sum(2)
		check(t, "Sum(2)", got, e, []uint32{0, 0})
		spoil(got)
		got, e = ring.Add([]uint32{1, 2}, []uint32{3, 4})
		check(t, "Add", got, e, []uint32{4, 6})
		spoil(got)
	}
}
