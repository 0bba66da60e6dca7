package tally_test

import (
	"math"
	"math/big"
	"slices"
	"testing"

	"offertory/api"
	"offertory/tally"
)

const (
	least    = math.MinInt
	greatest = math.MaxInt
	far      = 1 << 40
)

// draws are numbers that look drawn; each call has another.
type draws uint64

func (d *draws) next() uint64 {
	*d = *d*6364136223846793005 + 1442695040888963407
	return uint64(*d) ^ uint64(*d)>>29
}

func (d *draws) below(n int) int { return int(d.next() % uint64(n)) }

// any is a number of any length, and on both sides of 0.
func (d *draws) any() int { return int(d.next()) >> d.below(64) }

// plan is one that may be; its edges lie on both sides of its bounds, or all on one.
func (d *draws) plan() api.Plan {
	width := d.below(1 << d.below(41))
	low := d.below(2*far-width+1) - far
	if d.below(3) == 0 {
		low = max(-d.below(width+1), -far)
	}
	p := api.Plan{Low: low, High: low + width, Most: 1 + d.below(100)}
	step := 1 + width/(1+d.below(40))
	at := p.Low - d.below(1+20*step)
	for range d.below(65) {
		p.Edges = append(p.Edges, at)
		at += 1 + d.below(step)
	}
	return p
}

func (d *draws) sample(p api.Plan) int {
	switch d.below(6) {
	case 0:
		return d.any()
	case 1:
		return p.High + d.below(3) - 1
	case 2:
		return p.Low + d.below(3) - 1
	case 3:
		if len(p.Edges) > 0 {
			return p.Edges[d.below(len(p.Edges))] + d.below(3) - 1
		}
	}
	return p.Low + d.below(p.High-p.Low+1)
}

func (d *draws) samples(p api.Plan, n int) []int {
	list := make([]int, 0, n+3)
	for range n {
		list = append(list, d.sample(p))
	}
	return list
}

func number(n int) *big.Int { return big.NewInt(int64(n)) }

func plainClamp(p api.Plan, x int) int {
	if x < p.Low {
		return p.Low
	}
	if x > p.High {
		return p.High
	}
	return x
}

// plainBits tries one n behind the other.
func plainBits(p api.Plan) int {
	apart := new(big.Int).Sub(number(p.High), number(p.Low))
	n := 1
	for apart.Cmp(new(big.Int).Lsh(big.NewInt(1), uint(n))) >= 0 {
		n++
	}
	return n
}

// plainBin looks at all edges one by one.
func plainBin(p api.Plan, x int) int {
	n := 0
	for _, edge := range p.Edges {
		if !(edge > plainClamp(p, x)) {
			n++
		}
	}
	return n
}

// ones is of how many of the numbers that bit is 1.
func ones(list []*big.Int, bit int) uint32 {
	n := uint32(0)
	for _, x := range list {
		n += uint32(x.Bit(bit))
	}
	return n
}

// plainVector goes through all samples for each of its numbers, in the order of the chapter's words.
func plainVector(p api.Plan, samples []int) []uint32 {
	var places, squares []*big.Int
	for _, x := range samples {
		place := new(big.Int).Sub(number(plainClamp(p, x)), number(p.Low))
		places = append(places, place)
		squares = append(squares, new(big.Int).Mul(place, place))
	}
	var v []uint32
	for i := 0; i <= len(p.Edges); i++ {
		n := uint32(0)
		for _, x := range samples {
			if plainBin(p, x) == i {
				n++
			}
		}
		v = append(v, n)
	}
	v = append(v, uint32(len(samples)))
	b := plainBits(p)
	for bit := 0; bit < b; bit++ {
		v = append(v, ones(places, bit))
	}
	for bit := 0; bit < 2*b; bit++ {
		v = append(v, ones(squares, bit))
	}
	return v
}

func checkLen(t *testing.T, p api.Plan, want int) {
	t.Helper()
	if n, e := tally.Len(p); n != want || e != api.OK {
		t.Errorf("Len(%v) is %d, %d, not %d", p, n, e, want)
	}
}

func checkKnown(t *testing.T, p api.Plan, samples []int, want []uint32) {
	t.Helper()
	if v, e := tally.Encode(p, samples); e != api.OK || !slices.Equal(v, want) {
		t.Errorf("Encode(%v) of %d samples is %v, %d, not %v", p, len(samples), v, e, want)
	}
}

// checkVector holds Encode against the chapter's words, and its length against Len.
func checkVector(t *testing.T, p api.Plan, samples []int) {
	t.Helper()
	checkKnown(t, p, samples, plainVector(p, samples))
	v, _ := tally.Encode(p, samples)
	checkLen(t, p, len(v))
}

// checkSum: whatever the samples are, the pieces' numbers times their powers come to the places' sum and their squares' sum.
func checkSum(t *testing.T, p api.Plan, samples []int) {
	t.Helper()
	v, e := tally.Encode(p, samples)
	if e != api.OK {
		t.Fatalf("Encode(%v) is answered by %d", p, e)
	}
	b := plainBits(p)
	column := func(piece []uint32) *big.Int {
		sum := new(big.Int)
		for i, n := range piece {
			sum.Add(sum, new(big.Int).Lsh(new(big.Int).SetUint64(uint64(n)), uint(i)))
		}
		return sum
	}
	sum, squares := new(big.Int), new(big.Int)
	for _, x := range samples {
		place := new(big.Int).Sub(number(plainClamp(p, x)), number(p.Low))
		sum.Add(sum, place)
		squares.Add(squares, place.Mul(place, place))
	}
	at := len(p.Edges) + 2
	if column(v[at:at+b]).Cmp(sum) != 0 || column(v[at+b:]).Cmp(squares) != 0 {
		t.Errorf("Encode(%v) comes to %v and %v, not %v and %v", p, column(v[at:at+b]), column(v[at+b:]), sum, squares)
	}
}

// turns are the samples at which a number may turn, and those at the ends.
func turns(p api.Plan) []int {
	list := []int{least, least + 1, -far - 1, -far, -1, 0, 1, far, far + 1, greatest - 1, greatest}
	for i := -2; i <= 2; i++ {
		list = append(list, p.Low+i, p.High+i)
	}
	for _, edge := range p.Edges {
		list = append(list, edge-1, edge, edge+1)
	}
	for power := 1; power <= p.High-p.Low; power *= 2 {
		list = append(list, p.Low+power-1, p.Low+power)
	}
	return list
}

func checkTurns(t *testing.T, p api.Plan) {
	t.Helper()
	all := turns(p)
	for _, x := range all {
		checkVector(t, p, []int{x})
	}
	checkVector(t, p, all[:min(len(all), p.Most)])
}

// checkFault: both calls answer the error, and nothing beside it, also where there are too many samples.
func checkFault(t *testing.T, p api.Plan, want api.Errno) {
	t.Helper()
	if n, e := tally.Len(p); n != 0 || e != want {
		t.Errorf("Len(%v) is %d, %d, not 0, %d", p, n, e, want)
	}
	for _, samples := range [][]int{nil, {}, {1}, {1, 2}, make([]int, 7), make([]int, 65536), make([]int, 65537)} {
		if v, e := tally.Encode(p, samples); len(v) != 0 || e != want {
			t.Errorf("Encode(%v) of %d samples is %v, %d, not %d", p, len(samples), v, e, want)
		}
	}
}

func rising(first, step, n int) []int {
	list := make([]int, 0, n+2)
	for i := range n {
		list = append(list, first+step*i)
	}
	return list
}

func TestLenKnown(t *testing.T) {
	for _, c := range []struct {
		p    api.Plan
		want int
	}{
		{api.Plan{Low: -4, High: 11, Most: 6, Edges: []int{0, 5, 20}}, 17},
		{api.Plan{Most: 1}, 5},
		{api.Plan{Most: 1, Edges: []int{}}, 5},
		{api.Plan{Low: 5, High: 6, Most: 1}, 5},
		{api.Plan{Low: 5, High: 7, Most: 1}, 8},
		{api.Plan{Low: 5, High: 8, Most: 1}, 8},
		{api.Plan{Low: 5, High: 9, Most: 1}, 11},
		{api.Plan{Most: 65536, Edges: []int{7}}, 6},
		{api.Plan{Most: 1, Edges: rising(-3, 1, 64)}, 69},
		{api.Plan{High: far - 1, Most: 1}, 122},
		{api.Plan{Low: -far, High: -1, Most: 1, Edges: []int{greatest}}, 123},
		{api.Plan{Low: 1, High: far, Most: 1, Edges: rising(least, 1, 64)}, 186},
	} {
		checkLen(t, c.p, c.want)
	}
}

// Each number of bits with each number of edges, at the least and at the greatest width that has so many bits.
func TestLenEachWidth(t *testing.T) {
	for b := 1; b <= 40; b++ {
		for n := range 65 {
			for _, low := range []int{-far, -1, 0, 1} {
				p := api.Plan{Low: low, High: low + 1<<b - 1, Most: 1 + n, Edges: rising(-9, 2, n)}
				checkLen(t, p, n+1+1+b+2*b)
				p.High = low + 1<<(b-1)
				checkLen(t, p, n+1+1+b+2*b)
			}
		}
	}
}

// Neither Most nor where the edges lie changes how many numbers there are.
func TestLenHangsOnWidthAlone(t *testing.T) {
	for _, most := range []int{1, 2, 6, 65535, 65536} {
		for _, edges := range [][]int{{0, 5, 20}, {least, 0, greatest}, {-9, -8, -7}, {100, 101, far}} {
			checkLen(t, api.Plan{Low: -4, High: 11, Most: most, Edges: edges}, 17)
		}
	}
}

// Edges that lie behind the list's end are none.
func TestSpareRoom(t *testing.T) {
	room := rising(-10, 1, 64)
	for n := range 65 {
		p := api.Plan{Low: -30, High: 90, Most: 400, Edges: room[:n]}
		checkLen(t, p, n+23)
		checkTurns(t, p)
	}
}

func TestFaults(t *testing.T) {
	sound := api.Plan{Low: -4, High: 11, Most: 6, Edges: []int{0, 5, 20}}
	ranges := [][2]int{{1, 0}, {0, far}, {-far - 1, -far}, {far, far + 1}, {least, greatest}, {greatest, least}}
	mosts := []int{least, -1, 0, 65537, greatest}
	lists := [][]int{{1, 1}, {2, 1}, {1, 2, 3, 3}, rising(0, 3, 65), make([]int, 65), {greatest, least}}
	checkFault(t, api.Plan{}, api.ErrCap)
	checkFault(t, api.Plan{Low: 1}, api.ErrRange)
	for _, r := range ranges {
		p := sound
		p.Low, p.High = r[0], r[1]
		checkFault(t, p, api.ErrRange)
		for _, p.Most = range mosts {
			p.Edges = sound.Edges
			checkFault(t, p, api.ErrRange)
			for _, p.Edges = range lists {
				checkFault(t, p, api.ErrRange)
			}
		}
		p.Most = 6
		for _, p.Edges = range lists {
			checkFault(t, p, api.ErrRange)
		}
	}
	for _, most := range mosts {
		p := sound
		p.Most = most
		checkFault(t, p, api.ErrCap)
		for _, p.Edges = range lists {
			checkFault(t, p, api.ErrCap)
		}
	}
	for _, edges := range lists {
		p := sound
		p.Edges = edges
		checkFault(t, p, api.ErrEdges)
	}
}

func TestEncodeKnown(t *testing.T) {
	p := api.Plan{Low: -4, High: 11, Most: 6, Edges: []int{0, 5, 20}}
	for _, c := range []struct {
		samples []int
		want    []uint32
	}{
		{nil, make([]uint32, 17)},
		{[]int{}, make([]uint32, 17)},
		{[]int{-4}, []uint32{1, 0, 0, 0, 1, 0, 0, 0, 0, 0, 0, 0, 0, 0, 0, 0, 0}},
		{[]int{-5}, []uint32{1, 0, 0, 0, 1, 0, 0, 0, 0, 0, 0, 0, 0, 0, 0, 0, 0}},
		{[]int{least}, []uint32{1, 0, 0, 0, 1, 0, 0, 0, 0, 0, 0, 0, 0, 0, 0, 0, 0}},
		{[]int{-3}, []uint32{1, 0, 0, 0, 1, 1, 0, 0, 0, 1, 0, 0, 0, 0, 0, 0, 0}},
		{[]int{-1}, []uint32{1, 0, 0, 0, 1, 1, 1, 0, 0, 1, 0, 0, 1, 0, 0, 0, 0}},
		{[]int{0}, []uint32{0, 1, 0, 0, 1, 0, 0, 1, 0, 0, 0, 0, 0, 1, 0, 0, 0}},
		{[]int{5}, []uint32{0, 0, 1, 0, 1, 1, 0, 0, 1, 1, 0, 0, 0, 1, 0, 1, 0}},
		{[]int{11}, []uint32{0, 0, 1, 0, 1, 1, 1, 1, 1, 1, 0, 0, 0, 0, 1, 1, 1}},
		{[]int{12}, []uint32{0, 0, 1, 0, 1, 1, 1, 1, 1, 1, 0, 0, 0, 0, 1, 1, 1}},
		{[]int{20}, []uint32{0, 0, 1, 0, 1, 1, 1, 1, 1, 1, 0, 0, 0, 0, 1, 1, 1}},
		{[]int{greatest}, []uint32{0, 0, 1, 0, 1, 1, 1, 1, 1, 1, 0, 0, 0, 0, 1, 1, 1}},
		{[]int{-4, -3, 11, 40}, []uint32{2, 0, 2, 0, 4, 3, 2, 2, 2, 3, 0, 0, 0, 0, 2, 2, 2}},
		{[]int{40, -3, -4, 11}, []uint32{2, 0, 2, 0, 4, 3, 2, 2, 2, 3, 0, 0, 0, 0, 2, 2, 2}},
		{[]int{5, 5, 5, 5, 5, 5}, []uint32{0, 0, 6, 0, 6, 6, 0, 0, 6, 6, 0, 0, 0, 6, 0, 6, 0}},
	} {
		checkKnown(t, p, c.samples, c.want)
		checkVector(t, p, c.samples)
	}
	checkTurns(t, p)
}

// The least widths: one place, of which all bits are 0, and two places.
func TestEncodeOneBit(t *testing.T) {
	for _, low := range []int{-far, -5, 0, 7, far} {
		p := api.Plan{Low: low, High: low, Most: 3}
		checkKnown(t, p, nil, []uint32{0, 0, 0, 0, 0})
		checkKnown(t, p, []int{least, low, greatest}, []uint32{3, 3, 0, 0, 0})
	}
	for _, low := range []int{-far, -5, 0, 7, far - 1} {
		p := api.Plan{Low: low, High: low + 1, Most: 5, Edges: []int{low + 1}}
		checkKnown(t, p, []int{low}, []uint32{1, 0, 1, 0, 0, 0})
		checkKnown(t, p, []int{low + 1}, []uint32{0, 1, 1, 1, 1, 0})
		checkKnown(t, p, []int{least, low, low + 1, greatest, low + 2}, []uint32{2, 3, 5, 3, 3, 0})
	}
}

// ofBits is a vector's column of which the named numbers are n.
func ofBits(length int, n uint32, ones ...int) []uint32 {
	list := make([]uint32, length)
	for _, bit := range ones {
		list[bit] = n
	}
	return list
}

func upTo(first, last int) []int {
	var list []int
	for i := first; i <= last; i++ {
		list = append(list, i)
	}
	return list
}

// With the greatest width a square has 80 bits, more than a number of 64 bits holds.
func TestEncodeWidest(t *testing.T) {
	for _, low := range []int{-far, -far / 2, -1, 0, 1} {
		p := api.Plan{Low: low, High: low + far - 1, Most: 3}
		for _, c := range []struct {
			x               int
			places, squares []int
		}{
			{low, nil, nil},
			{low + 1, []int{0}, []int{0}},
			{low + 1<<31, []int{31}, []int{62}},
			{low + 1<<32, []int{32}, []int{64}},
			{low + 1<<33, []int{33}, []int{66}},
			{low + 1<<39, []int{39}, []int{78}},
			{low + 1<<32 + 1, []int{0, 32}, []int{0, 33, 64}},
			{low + 1<<39 + 1, []int{0, 39}, []int{0, 40, 78}},
			{low + 1<<39 + 1<<38, []int{38, 39}, []int{76, 79}},
			{low + far - 2, upTo(1, 39), append([]int{2}, upTo(42, 79)...)},
			{low + far - 1, upTo(0, 39), append([]int{0}, upTo(41, 79)...)},
			{greatest, upTo(0, 39), append([]int{0}, upTo(41, 79)...)},
		} {
			for n := 1; n <= 3; n++ {
				want := []uint32{uint32(n), uint32(n)}
				want = append(want, ofBits(40, uint32(n), c.places...)...)
				want = append(want, ofBits(80, uint32(n), c.squares...)...)
				checkKnown(t, p, slices.Repeat([]int{c.x}, n), want)
			}
		}
		p.Most = 400
		checkTurns(t, p)
	}
}

// Each number of bits, at a power of two, one less and one more.
func TestEncodeEachWidth(t *testing.T) {
	for b := 1; b <= 40; b++ {
		for _, width := range []int{1<<b - 1, 1 << (b - 1), 1<<(b-1) + 1} {
			if width >= far {
				continue
			}
			for _, low := range []int{-far, -width, -width / 3, 0, 1, far - width} {
				checkTurns(t, api.Plan{Low: low, High: low + width, Most: 400, Edges: []int{low, low + width/2 + 1}})
			}
		}
	}
}

// Every place of small plans, alone and with all others.
func TestEncodeEachPlace(t *testing.T) {
	for high := -6; high <= 30; high++ {
		p := api.Plan{Low: -6, High: high, Most: 80, Edges: []int{-2, 3, 11}}
		all := upTo(-9, high+3)
		for _, x := range all {
			checkVector(t, p, []int{x})
		}
		checkVector(t, p, all)
	}
}

// Each number of edges, the bins' counts stand first, in their order.
func TestEncodeEachNumberOfEdges(t *testing.T) {
	for n := range 65 {
		checkTurns(t, api.Plan{Low: -80, High: 90, Most: 400, Edges: rising(-70, 2, n)})
		checkTurns(t, api.Plan{Low: -far, High: -1, Most: 400, Edges: rising(-far-far/10, far/50, n)})
		p := api.Plan{Low: 0, High: 63, Most: 3000, Edges: rising(1, 1, n)}
		var samples []int
		for bin := range n + 1 {
			samples = append(samples, slices.Repeat([]int{bin}, bin)...)
		}
		v, e := tally.Encode(p, samples)
		if e != api.OK {
			t.Fatalf("Encode with %d edges is answered by %d", n, e)
		}
		for bin := range min(n, 62) {
			if v[bin] != uint32(bin) {
				t.Errorf("with %d edges bin %d has %d", n, bin, v[bin])
			}
		}
		checkVector(t, p, samples)
	}
}

// As many samples as may be, one fewer and one more.
func TestEncodeMost(t *testing.T) {
	for _, most := range []int{1, 2, 3, 6, 100, 65535, 65536} {
		p := api.Plan{Low: -4, High: 11, Most: most, Edges: []int{0, 5}}
		for _, n := range []int{0, 1, most - 1, most} {
			k := uint32(n)
			checkKnown(t, p, make([]int, n), []uint32{0, k, 0, k, 0, 0, k, 0, 0, 0, 0, 0, k, 0, 0, 0})
		}
		for _, n := range []int{most + 1, most + 2, 2*most + 1, 70000} {
			if v, e := tally.Encode(p, make([]int, n)); e != api.ErrCap || len(v) != 0 {
				t.Errorf("Encode of %d samples with Most %d is %v, %d", n, most, v, e)
			}
		}
	}
}

// As many samples as any plan may have, of the widest plan with all edges: every number of its vector is used.
func TestEncodeFullest(t *testing.T) {
	p := api.Plan{Low: -far / 2, High: far/2 - 1, Most: 65536, Edges: rising(-far/2+1, far/64, 64)}
	d := draws(4)
	samples := make([]int, 65536)
	for i := range samples {
		samples[i] = d.sample(p)
	}
	checkSum(t, p, samples)
	v, e := tally.Encode(p, samples)
	if e != api.OK || len(v) != 186 || v[65] != 65536 {
		t.Fatalf("Encode of 65536 samples is %v, %d", v, e)
	}
	// A square's bit 1 is never 1: squares are 0 or 1 modulo 4.
	for i, n := range v {
		if (n == 0) != (i == 66+40+1) {
			t.Errorf("number %d is %d", i, n)
		}
	}
	for i := range samples {
		samples[i] = greatest
	}
	want := make([]uint32, 186)
	for _, at := range append(append([]int{64, 65, 106}, upTo(66, 105)...), upTo(147, 185)...) {
		want[at] = 65536
	}
	checkKnown(t, p, samples, want)
	if v, e := tally.Encode(p, append(samples, 0)); e != api.ErrCap || len(v) != 0 {
		t.Errorf("Encode of 65537 samples is %v, %d", v, e)
	}
}

func TestMany(t *testing.T) {
	d := draws(1)
	for range 1500 {
		p := d.plan()
		samples := d.samples(p, d.below(p.Most+1))
		checkVector(t, p, samples)
		checkSum(t, p, samples)
		back := slices.Clone(samples)
		slices.Reverse(back)
		checkVector(t, p, back)
		if v, e := tally.Encode(p, d.samples(p, p.Most+1+d.below(3))); e != api.ErrCap || len(v) != 0 {
			t.Errorf("Encode(%v) of too many is %v, %d", p, v, e)
		}
	}
}

// The vectors of two lists, added, are that of both lists together.
func TestVectorsAdd(t *testing.T) {
	d := draws(5)
	for range 500 {
		p := d.plan()
		p.Most = 200
		a, b := d.samples(p, d.below(101)), d.samples(p, d.below(101))
		v, _ := tally.Encode(p, a)
		w, _ := tally.Encode(p, b)
		both, e := tally.Encode(p, append(slices.Clone(a), b...))
		if e != api.OK || len(v) != len(both) || len(w) != len(both) {
			t.Fatalf("Encode(%v) is %v, %v, %v, %d", p, v, w, both, e)
		}
		for i := range both {
			if v[i]+w[i] != both[i] {
				t.Errorf("number %d is %d and %d, and %d together", i, v[i], w[i], both[i])
			}
		}
	}
}

func TestInputsStay(t *testing.T) {
	d := draws(2)
	for range 500 {
		p := d.plan()
		samples := d.samples(p, d.below(p.Most+4))
		same := api.Plan{Low: p.Low, High: p.High, Most: p.Most, Edges: slices.Clone(p.Edges[:cap(p.Edges)])}
		before := slices.Clone(samples[:cap(samples)])
		tally.Len(p)
		tally.Encode(p, samples)
		if p.Low != same.Low || p.High != same.High || p.Most != same.Most || !slices.Equal(p.Edges[:cap(p.Edges)], same.Edges) {
			t.Fatalf("the plan was changed to %v from %v", p, same)
		}
		if !slices.Equal(samples[:cap(samples)], before) {
			t.Fatalf("samples were changed to %v from %v", samples[:cap(samples)], before)
		}
	}
}

// fill writes over an answer, spare room included.
func fill(v []uint32) {
	for i := range v[:cap(v)] {
		v[:cap(v)][i] = 7777
	}
}

// Whoever writes over an answer changes neither another answer nor what was handed in.
func TestAnswersAreApart(t *testing.T) {
	for _, edges := range [][]int{nil, {0}, {0, 5, 20}, rising(-9, 1, 64)} {
		for _, list := range [][]int{nil, {3}, {-5, 0, 1, 5, 30}} {
			p := api.Plan{Low: -4, High: 11, Most: 6, Edges: edges}
			samples := append(make([]int, 0, 90), list...)
			before, room := slices.Clone(edges), slices.Clone(samples[:cap(samples)])
			want := plainVector(p, samples)
			first, _ := tally.Encode(p, samples)
			second, _ := tally.Encode(p, samples)
			fill(first)
			if !slices.Equal(second, want) || !slices.Equal(edges, before) || !slices.Equal(samples[:cap(samples)], room) {
				t.Errorf("writing over an answer made %v, %v, %v", second, edges, samples)
			}
			checkKnown(t, p, samples, want)
		}
	}
}

// Nothing is kept: what another call was given changes no answer, and a list that was changed is looked at again.
func TestNothingIsKept(t *testing.T) {
	edges, samples := []int{0, 5, 20}, []int{-4, -3, 11, 40}
	p := api.Plan{Low: -4, High: 11, Most: 6, Edges: edges}
	d := draws(3)
	for range 500 {
		other := d.plan()
		tally.Encode(other, d.samples(other, d.below(other.Most+2)))
		tally.Len(other)
		tally.Len(api.Plan{})
		checkLen(t, p, 17)
		checkKnown(t, p, samples, []uint32{2, 0, 2, 0, 4, 3, 2, 2, 2, 3, 0, 0, 0, 0, 2, 2, 2})
	}
	for _, edges[1] = range []int{1, 2, 5, 6, 19} {
		for _, samples[0] = range []int{-5, 0, 3, 7} {
			checkVector(t, p, samples)
		}
	}
	edges[1] = 0
	checkFault(t, p, api.ErrEdges)
}
