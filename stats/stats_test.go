package stats_test

import (
	"math"
	"math/big"
	"slices"
	"testing"

	"offertory/api"
	"offertory/ring"
	"offertory/stats"
	"offertory/tally"
)

const (
	least    = math.MinInt
	greatest = math.MaxInt
	far      = 1 << 40
	full     = math.MaxUint32
)

// draws are numbers that look drawn; each call has another.
type draws uint64

func (d *draws) next() uint64 {
	*d = *d*6364136223846793005 + 1442695040888963407
	return uint64(*d) ^ uint64(*d)>>29
}

func (d *draws) below(n int) int { return int(d.next() % uint64(n)) }

// any is a number of any length, and on both sides of 0.
func (d *draws) any() int { return int(d.next()) >> d.below(64) }

// plan is one that may be; its bounds are of one sign or of both, its edges lie on both sides of them, or all on one.
func (d *draws) plan() api.Plan {
	width := d.below(1 << d.below(41))
	low := d.below(2*far-width+1) - far
	if d.below(3) == 0 {
		low = max(-d.below(width+1), -far)
	}
	p := api.Plan{Low: low, High: low + width, Most: 1 + d.below(100)}
	step := 1 + width/(1+d.below(40))
	at := p.Low - d.below(1+20*step)
	for range d.below(65) {
		p.Edges = append(p.Edges, at)
		at += 1 + d.below(step)
	}
	return p
}

func (d *draws) sample(p api.Plan) int {
	switch d.below(6) {
	case 0:
		return d.any()
	case 1:
		return p.High + d.below(3) - 1
	case 2:
		return p.Low + d.below(3) - 1
	case 3:
		if len(p.Edges) > 0 {
			return p.Edges[d.below(len(p.Edges))] + d.below(3) - 1
		}
	}
	return p.Low + d.below(p.High-p.Low+1)
}

func (d *draws) samples(p api.Plan, n int) []int {
	list := make([]int, 0, n+3)
	for range n {
		list = append(list, d.sample(p))
	}
	return list
}

// vector is one whose head is right, whether or not any samples have it.
func (d *draws) vector(p api.Plan) []uint32 {
	count := uint32(d.next()) >> d.below(33)
	v := make([]uint32, 0, 300)
	rest := count
	for range p.Edges {
		n := uint32(d.next() % (uint64(rest) + 1))
		v = append(v, n)
		rest -= n
	}
	v = append(v, rest, count)
	for range 3 * plainBits(p) {
		switch d.below(4) {
		case 0:
			v = append(v, 0)
		case 1:
			v = append(v, count)
		default:
			v = append(v, uint32(d.next()%(uint64(count)+1)))
		}
	}
	return v
}

func number(n int) *big.Int { return big.NewInt(int64(n)) }

func plainClamp(p api.Plan, x int) int {
	if x < p.Low {
		return p.Low
	}
	if x > p.High {
		return p.High
	}
	return x
}

// plainBits tries one n behind the other.
func plainBits(p api.Plan) int {
	apart := new(big.Int).Sub(number(p.High), number(p.Low))
	n := 1
	for apart.Cmp(new(big.Int).Lsh(big.NewInt(1), uint(n))) >= 0 {
		n++
	}
	return n
}

func plainLen(p api.Plan) int { return len(p.Edges) + 2 + 3*plainBits(p) }

// plainBin looks at all edges one by one.
func plainBin(p api.Plan, x int) int {
	n := 0
	for _, edge := range p.Edges {
		if !(edge > plainClamp(p, x)) {
			n++
		}
	}
	return n
}

// plainWide is a big number by 2^128.
func plainWide(n *big.Int) api.Wide {
	half := new(big.Int).Lsh(big.NewInt(1), 64)
	n = new(big.Int).Mod(n, new(big.Int).Mul(half, half))
	hi, lo := new(big.Int).DivMod(n, half, new(big.Int))
	return api.Wide{Hi: hi.Uint64(), Lo: lo.Uint64()}
}

func plainStats(bins []int, count int, sum, squares *big.Int) api.Stats {
	return api.Stats{Bins: bins, Count: count, Sum: plainWide(new(big.Int).Abs(sum)), Below: sum.Sign() < 0, Squares: plainWide(squares)}
}

// plainOf goes through the samples with big numbers.
func plainOf(p api.Plan, samples []int) api.Stats {
	bins := make([]int, len(p.Edges)+1)
	sum, squares := new(big.Int), new(big.Int)
	for _, sample := range samples {
		x := number(plainClamp(p, sample))
		bins[plainBin(p, sample)]++
		sum.Add(sum, x)
		squares.Add(squares, new(big.Int).Mul(x, x))
	}
	return plainStats(bins, len(samples), sum, squares)
}

// plainWorth is the bits' numbers times their powers of two.
func plainWorth(column []uint32) *big.Int {
	sum := new(big.Int)
	for i, n := range column {
		sum.Add(sum, new(big.Int).Lsh(new(big.Int).SetUint64(uint64(n)), uint(i)))
	}
	return sum
}

// plainDecode are the chapter's sums, of a vector whose head is right.
func plainDecode(p api.Plan, v []uint32) api.Stats {
	bins := make([]int, len(p.Edges)+1)
	for i := range bins {
		bins[i] = int(v[i])
	}
	at := len(p.Edges) + 2
	b := plainBits(p)
	low, count := number(p.Low), number(int(v[at-1]))
	places := plainWorth(v[at : at+b])
	sum := new(big.Int).Mul(count, low)
	sum.Add(sum, places)
	squares := plainWorth(v[at+b:])
	mixed := new(big.Int).Mul(low, places)
	squares.Add(squares, mixed.Add(mixed, mixed))
	squares.Add(squares, new(big.Int).Mul(count, new(big.Int).Mul(low, low)))
	return plainStats(bins, int(v[at-1]), sum, squares)
}

// equal holds the fields against each other without the package's own Same.
func equal(a, b api.Stats) bool {
	return slices.Equal(a.Bins, b.Bins) && a.Count == b.Count && a.Sum.Hi == b.Sum.Hi && a.Sum.Lo == b.Sum.Lo &&
		a.Below == b.Below && a.Squares.Hi == b.Squares.Hi && a.Squares.Lo == b.Squares.Lo
}

func checkOf(t *testing.T, p api.Plan, samples []int, want api.Stats) {
	t.Helper()
	if s, e := stats.Of(p, samples); e != api.OK || !equal(s, want) {
		t.Errorf("Of(%v) of %d samples is %v, %d, not %v", p, len(samples), s, e, want)
	}
}

func checkDecode(t *testing.T, p api.Plan, v []uint32, want api.Stats) {
	t.Helper()
	if s, e := stats.Decode(p, v); e != api.OK || !equal(s, want) {
		t.Errorf("Decode(%v, %v) is %v, %d, not %v", p, v, s, e, want)
	}
}

func checkDecodeFault(t *testing.T, p api.Plan, v []uint32, want api.Errno) {
	t.Helper()
	if s, e := stats.Decode(p, v); e != want || !equal(s, api.Stats{}) {
		t.Errorf("Decode(%v, %v) is %v, %d, not %d", p, v, s, e, want)
	}
}

// checkBoth: Of says what the samples come to, and Decode the same of their vector, where they have one.
func checkBoth(t *testing.T, p api.Plan, samples []int) {
	t.Helper()
	want := plainOf(p, samples)
	checkOf(t, p, samples, want)
	if len(samples) > p.Most {
		return
	}
	v, e := tally.Encode(p, samples)
	if e != api.OK {
		t.Fatalf("Encode(%v) is answered by %d", p, e)
	}
	checkDecode(t, p, v, want)
	of, _ := stats.Of(p, samples)
	decoded, _ := stats.Decode(p, v)
	if !stats.Same(of, decoded) || !stats.Same(decoded, of) {
		t.Errorf("%v and %v are not the same", of, decoded)
	}
}

// turns are the samples at which a number may turn, and those at the ends.
func turns(p api.Plan) []int {
	list := []int{least, least + 1, -far - 1, -far, -1, 0, 1, far, far + 1, greatest - 1, greatest}
	for i := -2; i <= 2; i++ {
		list = append(list, p.Low+i, p.High+i)
	}
	for _, edge := range p.Edges {
		list = append(list, edge-1, edge, edge+1)
	}
	for power := 1; power <= p.High-p.Low; power *= 2 {
		list = append(list, p.Low+power-1, p.Low+power)
	}
	return list
}

func checkTurns(t *testing.T, p api.Plan) {
	t.Helper()
	all := turns(p)
	for _, x := range all {
		checkBoth(t, p, []int{x})
	}
	checkBoth(t, p, all)
	checkBoth(t, p, all[:min(len(all), p.Most)])
}

func rising(first, step, n int) []int {
	list := make([]int, 0, n+2)
	for i := range n {
		list = append(list, first+step*i)
	}
	return list
}

// checkFault: both calls answer the plan's error and nothing beside it, whatever samples or numbers there are.
func checkFault(t *testing.T, p api.Plan, want api.Errno) {
	t.Helper()
	for _, samples := range [][]int{nil, {}, {1}, {1, 2}, make([]int, 7), make([]int, 70000)} {
		if s, e := stats.Of(p, samples); e != want || !equal(s, api.Stats{}) {
			t.Errorf("Of(%v) of %d samples is %v, %d, not %d", p, len(samples), s, e, want)
		}
	}
	for _, n := range []int{0, 1, 2, 5, 16, 17, 18, 69, 186, 200} {
		right := make([]uint32, n)
		wrong := slices.Repeat([]uint32{3}, n)
		checkDecodeFault(t, p, right, want)
		checkDecodeFault(t, p, wrong, want)
	}
	checkDecodeFault(t, p, nil, want)
}

func TestFaults(t *testing.T) {
	sound := api.Plan{Low: -4, High: 11, Most: 6, Edges: []int{0, 5, 20}}
	ranges := [][2]int{{1, 0}, {0, far}, {-far - 1, -far}, {far, far + 1}, {least, greatest}, {greatest, least}}
	mosts := []int{least, -1, 0, 65537, greatest}
	lists := [][]int{{1, 1}, {2, 1}, {1, 2, 3, 3}, rising(0, 3, 65), make([]int, 65), {greatest, least}}
	checkFault(t, api.Plan{}, api.ErrCap)
	checkFault(t, api.Plan{Low: 1}, api.ErrRange)
	for _, r := range ranges {
		p := sound
		p.Low, p.High = r[0], r[1]
		checkFault(t, p, api.ErrRange)
		for _, p.Most = range mosts {
			p.Edges = sound.Edges
			checkFault(t, p, api.ErrRange)
			for _, p.Edges = range lists {
				checkFault(t, p, api.ErrRange)
			}
		}
		p.Most = 6
		for _, p.Edges = range lists {
			checkFault(t, p, api.ErrRange)
		}
	}
	for _, most := range mosts {
		p := sound
		p.Most = most
		checkFault(t, p, api.ErrCap)
		for _, p.Edges = range lists {
			checkFault(t, p, api.ErrCap)
		}
	}
	for _, edges := range lists {
		p := sound
		p.Edges = edges
		checkFault(t, p, api.ErrEdges)
	}
}

func TestOfKnown(t *testing.T) {
	p := api.Plan{Low: -4, High: 11, Most: 6, Edges: []int{0, 5, 20}}
	for _, c := range []struct {
		samples []int
		bins    []int
		sum     uint64
		below   bool
		squares uint64
	}{
		{nil, []int{0, 0, 0, 0}, 0, false, 0},
		{[]int{}, []int{0, 0, 0, 0}, 0, false, 0},
		{[]int{-4}, []int{1, 0, 0, 0}, 4, true, 16},
		{[]int{-5}, []int{1, 0, 0, 0}, 4, true, 16},
		{[]int{least}, []int{1, 0, 0, 0}, 4, true, 16},
		{[]int{-1}, []int{1, 0, 0, 0}, 1, true, 1},
		{[]int{0}, []int{0, 1, 0, 0}, 0, false, 0},
		{[]int{1}, []int{0, 1, 0, 0}, 1, false, 1},
		{[]int{5}, []int{0, 0, 1, 0}, 5, false, 25},
		{[]int{11}, []int{0, 0, 1, 0}, 11, false, 121},
		{[]int{12}, []int{0, 0, 1, 0}, 11, false, 121},
		{[]int{20}, []int{0, 0, 1, 0}, 11, false, 121},
		{[]int{greatest}, []int{0, 0, 1, 0}, 11, false, 121},
		{[]int{-9, -3, 2}, []int{2, 1, 0, 0}, 5, true, 29},
		{[]int{-4, 4}, []int{1, 1, 0, 0}, 0, false, 32},
		{[]int{-4, 3}, []int{1, 1, 0, 0}, 1, true, 25},
		{[]int{-4, -3, 11, 40}, []int{2, 0, 2, 0}, 15, false, 267},
		{[]int{40, -3, -4, 11}, []int{2, 0, 2, 0}, 15, false, 267},
		{[]int{5, 5, 5, 5, 5, 5}, []int{0, 0, 6, 0}, 30, false, 150},
		{[]int{-1, -1, -1, -1, -1, -1, -1}, []int{7, 0, 0, 0}, 7, true, 7},
		{make([]int, 70000), []int{0, 70000, 0, 0}, 0, false, 0},
	} {
		want := api.Stats{Bins: c.bins, Count: len(c.samples), Sum: api.Wide{Lo: c.sum}, Below: c.below, Squares: api.Wide{Lo: c.squares}}
		checkOf(t, p, c.samples, want)
		checkBoth(t, p, c.samples)
	}
	checkTurns(t, p)
}

// However many samples there are, Most says nothing here.
func TestOfMoreThanMost(t *testing.T) {
	for _, most := range []int{1, 2, 6, 65535, 65536} {
		p := api.Plan{Low: -4, High: 11, Most: most, Edges: []int{0, 5}}
		for _, n := range []int{0, 1, most - 1, most, most + 1, 2*most + 3, 65536, 65537, 200000} {
			checkOf(t, p, slices.Repeat([]int{-2}, n), api.Stats{Bins: []int{n, 0, 0}, Count: n, Sum: api.Wide{Lo: uint64(2 * n)}, Below: n > 0, Squares: api.Wide{Lo: uint64(4 * n)}})
			checkOf(t, p, slices.Repeat([]int{99}, n), api.Stats{Bins: []int{0, 0, n}, Count: n, Sum: api.Wide{Lo: uint64(11 * n)}, Squares: api.Wide{Lo: uint64(121 * n)}})
		}
	}
}

// So many samples that their sum has more bits than any number of 64 bits holds, with and without its sign.
func TestOfGreatestSums(t *testing.T) {
	most := 1<<24 + 3
	zeros := make([]int, most)
	for _, n := range []int{1 << 23, most} {
		sum := plainWide(new(big.Int).Mul(number(n), number(far)))
		squares := plainWide(new(big.Int).Mul(number(n), new(big.Int).Mul(number(far), number(far))))
		up := api.Plan{Low: far, High: far, Most: 1}
		checkOf(t, up, zeros[:n], api.Stats{Bins: []int{n}, Count: n, Sum: sum, Squares: squares})
		down := api.Plan{Low: -far, High: -far, Most: 1}
		checkOf(t, down, zeros[:n], api.Stats{Bins: []int{n}, Count: n, Sum: sum, Below: true, Squares: squares})
	}
}

// Squares of which one alone has more than 64 bits, and such as come to more together.
func TestOfGreatSquares(t *testing.T) {
	p := api.Plan{Low: -far / 2, High: far/2 - 1, Most: 1}
	checkOf(t, p, []int{1 << 32}, api.Stats{Bins: []int{1}, Count: 1, Sum: api.Wide{Lo: 1 << 32}, Squares: api.Wide{Hi: 1}})
	checkOf(t, p, []int{-1 << 32}, api.Stats{Bins: []int{1}, Count: 1, Sum: api.Wide{Lo: 1 << 32}, Below: true, Squares: api.Wide{Hi: 1}})
	checkOf(t, p, []int{1<<32 - 1}, api.Stats{Bins: []int{1}, Count: 1, Sum: api.Wide{Lo: 1<<32 - 1}, Squares: api.Wide{Lo: 1<<64 - 1<<33 + 1}})
	checkOf(t, p, []int{-1<<32 - 1}, api.Stats{Bins: []int{1}, Count: 1, Sum: api.Wide{Lo: 1<<32 + 1}, Below: true, Squares: api.Wide{Hi: 1, Lo: 1<<33 + 1}})
	checkOf(t, p, []int{least}, api.Stats{Bins: []int{1}, Count: 1, Sum: api.Wide{Lo: 1 << 39}, Below: true, Squares: api.Wide{Hi: 1 << 14}})
	checkOf(t, p, []int{-1 << 31, 1 << 31, 1 << 31, -1 << 31, -1}, api.Stats{Bins: []int{5}, Count: 5, Sum: api.Wide{Lo: 1}, Below: true, Squares: api.Wide{Hi: 1, Lo: 1}})
	checkOf(t, p, []int{1 << 32, -1 << 32}, api.Stats{Bins: []int{2}, Count: 2, Squares: api.Wide{Hi: 2}})
}

// Bounds both below 0, both above 0, and of both signs, as far from 0 as they may be.
func TestSigns(t *testing.T) {
	for _, r := range [][2]int{
		{-far, -far}, {-far, -far + 1}, {-far, -1}, {-far, -far / 2}, {-9, -2}, {-9, -1}, {-1, -1},
		{-9, 0}, {-1, 0}, {0, 0}, {0, 1}, {0, 9}, {-9, 9}, {-1, 1}, {-far + 1, 0}, {-far / 2, far/2 - 1}, {-1, far - 2}, {0, far - 1},
		{1, 1}, {1, far}, {2, 9}, {far / 2, far}, {far - 1, far}, {far, far},
	} {
		for _, edges := range [][]int{nil, {0}, {r[0], r[1] + 1}, {least, -far, -1, 0, 1, far, greatest}} {
			p := api.Plan{Low: r[0], High: r[1], Most: 400, Edges: edges}
			checkTurns(t, p)
			for n := 1; n <= 4; n++ {
				for _, x := range []int{r[0], r[1], 0} {
					checkBoth(t, p, slices.Repeat([]int{x}, n))
				}
				checkBoth(t, p, append(slices.Repeat([]int{r[0]}, n), slices.Repeat([]int{r[1]}, n)...))
			}
		}
	}
}

// Each number of bits with each number of edges.
func TestEachShape(t *testing.T) {
	d := draws(6)
	for b := 1; b <= 40; b++ {
		for n := range 65 {
			width := 1<<b - 1
			low := []int{-far, -width / 2, 0, far - width}[(b+n)%4]
			p := api.Plan{Low: low, High: low + width, Most: 30, Edges: rising(low-3, width/40+1, n)}
			checkBoth(t, p, d.samples(p, d.below(31)))
			v := d.vector(p)
			checkDecode(t, p, v, plainDecode(p, v))
			checkDecodeFault(t, p, v[:len(v)-1], api.ErrArg)
			checkDecodeFault(t, p, append(v, 0), api.ErrArg)
		}
	}
}

// Every place of small plans, alone and with all others.
func TestEachPlace(t *testing.T) {
	for high := -6; high <= 30; high++ {
		p := api.Plan{Low: -6, High: high, Most: 80, Edges: []int{-2, 3, 11}}
		all := rising(-9, 1, high+13)
		for i, x := range all {
			checkBoth(t, p, []int{x})
			checkBoth(t, p, all[:i])
		}
		checkBoth(t, p, all)
	}
}

func TestMany(t *testing.T) {
	d := draws(1)
	for range 1500 {
		p := d.plan()
		checkBoth(t, p, d.samples(p, d.below(p.Most+1)))
		checkBoth(t, p, d.samples(p, p.Most+d.below(20)))
		v := d.vector(p)
		checkDecode(t, p, v, plainDecode(p, v))
	}
}

func TestSame(t *testing.T) {
	full := api.Stats{Bins: []int{1, 2, 3}, Count: 6, Sum: api.Wide{Hi: 7, Lo: 8}, Squares: api.Wide{Hi: 9, Lo: 10}, Below: true}
	empty := api.Stats{}
	for _, base := range []api.Stats{full, empty} {
		twin := base
		twin.Bins = slices.Clone(base.Bins)
		if !stats.Same(base, twin) || !stats.Same(base, base) {
			t.Errorf("%v is not the same as itself", base)
		}
		changes := []func(s *api.Stats){
			func(s *api.Stats) { s.Bins = append(s.Bins, 0) },
			func(s *api.Stats) { s.Bins = append(s.Bins, 3) },
			func(s *api.Stats) { s.Bins = append([]int{0}, s.Bins...) },
			func(s *api.Stats) { s.Count++ },
			func(s *api.Stats) { s.Count-- },
			func(s *api.Stats) { s.Count += 1 << 32 },
			func(s *api.Stats) { s.Count = least },
			func(s *api.Stats) { s.Sum.Hi++ },
			func(s *api.Stats) { s.Sum.Hi ^= 1 << 63 },
			func(s *api.Stats) { s.Sum.Lo++ },
			func(s *api.Stats) { s.Sum.Lo ^= 1 << 63 },
			func(s *api.Stats) { s.Below = !s.Below },
			func(s *api.Stats) { s.Squares.Hi++ },
			func(s *api.Stats) { s.Squares.Hi ^= 1 << 63 },
			func(s *api.Stats) { s.Squares.Lo++ },
			func(s *api.Stats) { s.Squares.Lo ^= 1 << 63 },
		}
		if len(base.Bins) > 0 {
			changes = append(changes,
				func(s *api.Stats) { s.Bins = nil },
				func(s *api.Stats) { s.Bins = []int{} },
				func(s *api.Stats) { s.Bins = s.Bins[:2] },
				func(s *api.Stats) { s.Bins = s.Bins[1:] },
				func(s *api.Stats) { s.Bins[0] = 0 },
				func(s *api.Stats) { s.Bins[1]++ },
				func(s *api.Stats) { s.Bins[2] = -3 },
				func(s *api.Stats) { s.Bins[0], s.Bins[1] = 2, 1 },
				func(s *api.Stats) { s.Sum, s.Squares = s.Squares, s.Sum },
				func(s *api.Stats) { s.Sum.Hi, s.Sum.Lo = s.Sum.Lo, s.Sum.Hi },
			)
		}
		for i, change := range changes {
			other := base
			other.Bins = slices.Clone(base.Bins)
			change(&other)
			if stats.Same(base, other) || stats.Same(other, base) {
				t.Errorf("change %d: %v is the same as %v", i, other, base)
			}
		}
	}
}

func TestSameWithoutBins(t *testing.T) {
	none := [][]int{nil, {}, make([]int, 0, 5), []int{1, 2, 3}[3:]}
	for _, a := range none {
		for _, b := range none {
			x := api.Stats{Bins: a, Count: 2, Sum: api.Wide{Lo: 3}, Squares: api.Wide{Hi: 4}, Below: true}
			y := x
			y.Bins = b
			if !stats.Same(x, y) || !stats.Same(api.Stats{Bins: a}, api.Stats{Bins: b}) {
				t.Errorf("%#v and %#v are not the same", a, b)
			}
			y.Count = 3
			if stats.Same(x, y) {
				t.Errorf("%v and %v are the same", x, y)
			}
		}
		for _, b := range [][]int{{0}, {1}, {0, 0}, {0, 0, 0, 0}} {
			if stats.Same(api.Stats{Bins: a}, api.Stats{Bins: b}) || stats.Same(api.Stats{Bins: b}, api.Stats{Bins: a}) {
				t.Errorf("%#v and %#v are the same", a, b)
			}
		}
	}
	// What lies in spare room is not looked at.
	x, y := api.Stats{Bins: []int{1, 2, 3}[:2]}, api.Stats{Bins: []int{1, 2, 4}[:2]}
	if !stats.Same(x, y) {
		t.Errorf("%v and %v are not the same", x, y)
	}
}

func TestDecodeLength(t *testing.T) {
	for _, p := range []api.Plan{
		{Most: 1},
		{Low: -4, High: 11, Most: 6, Edges: []int{0, 5, 20}},
		{Low: -far, High: -1, Most: 65536, Edges: rising(least, 1, 64)},
	} {
		n := plainLen(p)
		room := make([]uint32, n+300)
		for length := range n + 300 {
			if length != n {
				checkDecodeFault(t, p, room[:length], api.ErrArg)
			}
		}
		checkDecodeFault(t, p, nil, api.ErrArg)
		checkDecodeFault(t, p, []uint32{}, api.ErrArg)
		checkDecode(t, p, room[:n], api.Stats{Bins: make([]int, len(p.Edges)+1)})
		// ErrArg is named ahead of ErrHead.
		for _, length := range []int{1, 2, n - 1, n + 1, 2 * n} {
			checkDecodeFault(t, p, slices.Repeat([]uint32{9}, length)[:length], api.ErrArg)
		}
		wrong := make([]uint32, n)
		wrong[0] = 1
		checkDecodeFault(t, p, wrong, api.ErrHead)
		checkDecodeFault(t, p, wrong[:n-1], api.ErrArg)
		checkDecodeFault(t, p, append(wrong, 0), api.ErrArg)
	}
}

func TestDecodeKnown(t *testing.T) {
	p := api.Plan{Low: -4, High: 11, Most: 6, Edges: []int{0, 5, 20}}
	for _, c := range []struct {
		v       []uint32
		bins    []int
		count   int
		sum     uint64
		below   bool
		squares api.Wide
	}{
		{make([]uint32, 17), []int{0, 0, 0, 0}, 0, 0, false, api.Wide{}},
		{[]uint32{2, 0, 2, 0, 4, 3, 2, 2, 2, 3, 0, 0, 0, 0, 2, 2, 2}, []int{2, 0, 2, 0}, 4, 15, false, api.Wide{Lo: 267}},
		{[]uint32{1, 0, 0, 0, 1, 0, 0, 0, 0, 0, 0, 0, 0, 0, 0, 0, 0}, []int{1, 0, 0, 0}, 1, 4, true, api.Wide{Lo: 16}},
		// A bin that no sample of this plan has, and places that do not lie there.
		{[]uint32{0, 0, 0, 1, 1, 0, 0, 0, 0, 0, 0, 0, 0, 0, 0, 0, 0}, []int{0, 0, 0, 1}, 1, 4, true, api.Wide{Lo: 16}},
		// Places without their squares: 0 and -8 times 15 and 16, which is below 0.
		{[]uint32{1, 0, 0, 0, 1, 1, 1, 1, 1, 0, 0, 0, 0, 0, 0, 0, 0}, []int{1, 0, 0, 0}, 1, 11, false, api.Wide{Hi: math.MaxUint64, Lo: 1<<64 - 104}},
		// The place 2 has -16 and 16, which is 0; the sum is below 0.
		{[]uint32{1, 0, 0, 0, 1, 0, 1, 0, 0, 0, 0, 0, 0, 0, 0, 0, 0}, []int{1, 0, 0, 0}, 1, 2, true, api.Wide{}},
		// All bits of the squares without places: 255 and 16.
		{[]uint32{1, 0, 0, 0, 1, 0, 0, 0, 0, 1, 1, 1, 1, 1, 1, 1, 1}, []int{1, 0, 0, 0}, 1, 4, true, api.Wide{Lo: 271}},
		// The place 4 stands for 0: a sum of 0 is not below it.
		{[]uint32{3, 0, 0, 0, 3, 0, 0, 3, 0, 0, 0, 0, 0, 3, 0, 0, 0}, []int{3, 0, 0, 0}, 3, 0, false, api.Wide{}},
	} {
		want := api.Stats{Bins: c.bins, Count: c.count, Sum: api.Wide{Lo: c.sum}, Below: c.below, Squares: c.squares}
		checkDecode(t, p, c.v, want)
		if !equal(plainDecode(p, c.v), want) {
			t.Errorf("plainly %v is %v, not %v", c.v, plainDecode(p, c.v), want)
		}
	}
}

// Bins that together are one more or one less than the count, whichever of them it is.
func TestDecodeBinsBesideCount(t *testing.T) {
	d := draws(7)
	for range 300 {
		p := d.plan()
		v := d.vector(p)
		at := len(p.Edges) + 1
		checkDecode(t, p, v, plainDecode(p, v))
		for i := range at {
			for _, by := range []uint32{1, full, 1 << 31, 1 << 16} {
				v[i] += by
				checkDecodeFault(t, p, v, api.ErrHead)
				v[i] -= by
			}
		}
	}
	p := api.Plan{Low: -4, High: 11, Most: 6, Edges: []int{0, 5, 20}}
	head := func(numbers ...uint32) []uint32 { return append(numbers, make([]uint32, 12)...) }
	for _, v := range [][]uint32{
		head(0, 0, 0, 0, 1), head(1, 0, 0, 0, 0), head(0, 0, 0, 1, 0), head(1, 1, 1, 1, 3), head(1, 1, 1, 1, 5),
		head(full, 0, 0, 0, 0), head(0, 0, 0, 0, full), head(0, 0, 0, full-1, full), head(0, full, 0, 0, full-1),
		// These would be the count, or no samples, by 2^32.
		head(full, 1, 0, 0, 0), head(full, 0, 0, 2, 1), head(1<<31, 1<<31, 0, 0, 0), head(1<<31, 0, 1<<31, 7, 7),
		head(1<<30, 1<<30, 1<<30, 1<<30, 0), head(full, full, full, full, full-3), head(full, full, 0, 0, full-1), head(full, full, 2, 0, 0), head(full, full, 2, full, full),
	} {
		checkDecodeFault(t, p, v, api.ErrHead)
	}
	for _, v := range [][]uint32{
		head(0, 0, 0, 0, 0), head(1, 1, 1, 1, 4), head(full, 0, 0, 0, full), head(0, 0, 0, full, full), head(1<<31, 1<<31-1, 0, 0, full), head(1<<30, 1<<30, 1<<30, 1<<30-1, full),
	} {
		checkDecode(t, p, v, plainDecode(p, v))
	}
}

// The number of any bit may be the count, and not one above it.
func TestDecodeBitsAboveCount(t *testing.T) {
	for _, p := range []api.Plan{
		{Most: 1},
		{Low: -4, High: 11, Most: 6, Edges: []int{0, 5, 20}},
		{Low: 7, High: 1000, Most: 6, Edges: rising(0, 3, 64)},
		{Low: -far, High: -1, Most: 65536},
		{Low: -far / 2, High: far/2 - 1, Most: 65536, Edges: []int{0}},
		{Low: 1, High: far, Most: 1, Edges: rising(least, 1, 64)},
	} {
		first := len(p.Edges) + 2
		for _, count := range []uint32{0, 1, 5, 1 << 31, full - 1} {
			v := make([]uint32, plainLen(p))
			v[first-1], v[first-2] = count, count
			for i := first; i < len(v); i++ {
				for _, above := range []uint32{count + 1, full} {
					v[i] = above
					checkDecodeFault(t, p, v, api.ErrHead)
				}
				v[i] = count
				checkDecode(t, p, v, plainDecode(p, v))
			}
			v[0]++
			checkDecodeFault(t, p, v, api.ErrHead)
		}
	}
}

// Every number at its end: bins that together are 2^32 - 1, and every bit's number likewise.
func TestDecodeFullest(t *testing.T) {
	for _, r := range [][2]int{{-far, -1}, {-far, -far}, {-far / 2, far/2 - 1}, {-1, far - 2}, {0, far - 1}, {1, far}, {far, far}, {-4, 11}, {0, 0}} {
		for _, n := range []int{0, 1, 64} {
			p := api.Plan{Low: r[0], High: r[1], Most: 1, Edges: rising(-9, 2, n)}
			for at := range n + 1 {
				v := slices.Repeat([]uint32{full}, plainLen(p))
				clear(v[:n+1])
				v[at] = full
				checkDecode(t, p, v, plainDecode(p, v))
				// Neither squares nor places alone come to the same.
				first := n + 2
				clear(v[first+plainBits(p):])
				checkDecode(t, p, v, plainDecode(p, v))
				clear(v[first:])
				checkDecode(t, p, v, plainDecode(p, v))
			}
			v := slices.Repeat([]uint32{full}, plainLen(p))
			for i := range n {
				v[i] = full / uint32(n+1)
			}
			v[n] -= uint32(n) * (full / uint32(n+1))
			checkDecode(t, p, v, plainDecode(p, v))
		}
	}
	p := api.Plan{Low: -far, High: -1, Most: 1}
	v := slices.Repeat([]uint32{full}, 122)
	// 2^32 - 1 times -2^40 and 2^40 - 1 is 2^32 - 1 below 0; the squares' bits are 2^80 - 1, and 2^80 is less than twice 2^80 - 2^40.
	checkDecode(t, p, v, api.Stats{Bins: []int{full}, Count: full, Sum: api.Wide{Lo: full}, Below: true, Squares: plainWide(new(big.Int).Mul(number(full), number(2*far-1)))})
	clear(v[42:])
	// Without the squares' bits: -2^81 + 2^41 + 2^80, 2^32 - 1 times, by 2^128.
	one := new(big.Int).Lsh(big.NewInt(1), 80)
	one.Sub(number(2*far), one)
	checkDecode(t, p, v, api.Stats{Bins: []int{full}, Count: full, Sum: api.Wide{Lo: full}, Below: true, Squares: plainWide(one.Mul(one, number(full)))})
}

// One bit alone, in the places and in the squares, with every number of bits.
func TestDecodeEachBit(t *testing.T) {
	for _, low := range []int{-far, -far / 2, -3, -1, 0, 1} {
		for b := 1; b <= 40; b++ {
			p := api.Plan{Low: low, High: low + 1<<b - 1, Most: 1}
			for bit := range 3 * b {
				v := make([]uint32, 2+3*b)
				v[0], v[1], v[2+bit] = 1, 1, 1
				checkDecode(t, p, v, plainDecode(p, v))
				v[0], v[1] = full, full
				checkDecode(t, p, v, plainDecode(p, v))
				v[2+bit] = full
				checkDecode(t, p, v, plainDecode(p, v))
			}
		}
	}
}

// The sum of vectors says what all samples together come to, more of them than one vector may have.
func TestDecodeSums(t *testing.T) {
	d := draws(5)
	for range 400 {
		p := d.plan()
		var all []int
		var vectors [][]uint32
		for range d.below(8) {
			samples := d.samples(p, d.below(p.Most+1))
			v, e := tally.Encode(p, samples)
			if e != api.OK {
				t.Fatalf("Encode(%v) is answered by %d", p, e)
			}
			vectors = append(vectors, v)
			all = append(all, samples...)
		}
		sum, e := ring.Sum(plainLen(p), vectors...)
		if e != api.OK {
			t.Fatalf("Sum is answered by %d", e)
		}
		checkDecode(t, p, sum, plainOf(p, all))
		checkOf(t, p, all, plainOf(p, all))
	}
}

// The vector of one sample as often as fewer than 2^32 may stand together.
func TestDecodeGreatestSums(t *testing.T) {
	d := draws(8)
	for range 400 {
		p := d.plan()
		samples := d.samples(p, 1+d.below(p.Most))
		v, _ := tally.Encode(p, samples)
		times := (1<<32 - 1) / len(samples)
		for i := range v {
			v[i] *= uint32(times)
		}
		bins := make([]int, len(p.Edges)+1)
		sum, squares := new(big.Int), new(big.Int)
		for _, sample := range samples {
			x := number(plainClamp(p, sample))
			bins[plainBin(p, sample)] += times
			sum.Add(sum, new(big.Int).Mul(x, number(times)))
			squares.Add(squares, new(big.Int).Mul(x, new(big.Int).Mul(x, number(times))))
		}
		checkDecode(t, p, v, plainStats(bins, times*len(samples), sum, squares))
	}
}

func clone(p api.Plan) api.Plan {
	p.Edges = slices.Clone(p.Edges[:cap(p.Edges)])
	return p
}

func checkStays(t *testing.T, p, same api.Plan) {
	t.Helper()
	if p.Low != same.Low || p.High != same.High || p.Most != same.Most || !slices.Equal(p.Edges[:cap(p.Edges)], same.Edges) {
		t.Fatalf("the plan was changed to %v from %v", p, same)
	}
}

func TestInputsStay(t *testing.T) {
	d := draws(2)
	for range 500 {
		p := d.plan()
		same := clone(p)
		samples := d.samples(p, d.below(p.Most+4))
		before := slices.Clone(samples[:cap(samples)])
		v := d.vector(p)
		if d.below(3) == 0 {
			v[d.below(len(v))]++
		}
		room := v[:cap(v)]
		for i := len(v); i < len(room); i++ {
			room[i] = uint32(i)
		}
		if d.below(5) == 0 {
			v = v[:len(v)-1]
		}
		numbers := slices.Clone(room)
		stats.Of(p, samples)
		stats.Decode(p, v)
		checkStays(t, p, same)
		if !slices.Equal(samples[:cap(samples)], before) {
			t.Fatalf("samples were changed to %v from %v", samples[:cap(samples)], before)
		}
		if !slices.Equal(room, numbers) {
			t.Fatalf("the vector was changed to %v from %v", room, numbers)
		}
	}
	bins := []int{5, 3, 4, 9, 9}
	a := api.Stats{Bins: bins[:3], Count: 12}
	b := api.Stats{Bins: []int{3, 4, 5, 8}[:3], Count: 12}
	stats.Same(a, b)
	stats.Same(a, a)
	if !slices.Equal(bins, []int{5, 3, 4, 9, 9}) || !slices.Equal(b.Bins[:4], []int{3, 4, 5, 8}) || a.Count != 12 || b.Count != 12 {
		t.Errorf("Same changed what it was given: %v, %v", bins, b)
	}
}

// fill writes over an answer's list, spare room included.
func fill(s api.Stats) {
	room := s.Bins[:cap(s.Bins)]
	for i := range room {
		room[i] = 7777
	}
}

// Whoever writes over an answer changes neither another answer nor what was handed in.
func TestAnswersAreApart(t *testing.T) {
	for _, edges := range [][]int{nil, {0}, {0, 5, 20}, rising(-9, 1, 64)} {
		for _, list := range [][]int{nil, {3}, {-5, 0, 1, 5, 30}} {
			p := api.Plan{Low: -4, High: 11, Most: 6, Edges: edges}
			same := clone(p)
			samples := append(make([]int, 0, 90), list...)
			room := slices.Clone(samples[:cap(samples)])
			v, _ := tally.Encode(p, samples)
			numbers := slices.Clone(v)
			want := plainOf(p, samples)
			ofOne, _ := stats.Of(p, samples)
			ofTwo, _ := stats.Of(p, samples)
			decodedOne, _ := stats.Decode(p, v)
			decodedTwo, _ := stats.Decode(p, v)
			fill(ofOne)
			fill(decodedOne)
			if !equal(ofTwo, want) || !equal(decodedTwo, want) {
				t.Errorf("writing over an answer made %v, %v", ofTwo, decodedTwo)
			}
			checkStays(t, p, same)
			if !slices.Equal(samples[:cap(samples)], room) || !slices.Equal(v, numbers) {
				t.Errorf("writing over an answer made %v, %v", samples, v)
			}
			checkOf(t, p, samples, want)
			checkDecode(t, p, v, want)
			// And the other way: what was handed in may be written over behind the call.
			for i := range samples {
				samples[i] = 99
			}
			clear(v)
			if !equal(ofTwo, want) || !equal(decodedTwo, want) {
				t.Errorf("writing over what was handed in made %v, %v", ofTwo, decodedTwo)
			}
		}
	}
}

// Nothing is kept: what another call was given changes no answer, and a list that was changed is looked at again.
func TestNothingIsKept(t *testing.T) {
	edges, samples := []int{0, 5, 20}, []int{-4, -3, 11, 40}
	p := api.Plan{Low: -4, High: 11, Most: 6, Edges: edges}
	v, _ := tally.Encode(p, samples)
	want := api.Stats{Bins: []int{2, 0, 2, 0}, Count: 4, Sum: api.Wide{Lo: 15}, Squares: api.Wide{Lo: 267}}
	d := draws(3)
	for range 500 {
		other := d.plan()
		stats.Of(other, d.samples(other, d.below(other.Most+2)))
		stats.Decode(other, d.vector(other))
		stats.Decode(p, nil)
		stats.Decode(p, slices.Repeat([]uint32{3}, 17))
		stats.Of(api.Plan{}, samples)
		stats.Same(want, api.Stats{})
		checkOf(t, p, samples, want)
		checkDecode(t, p, v, want)
	}
	for _, edges[1] = range []int{1, 2, 5, 6, 19} {
		for _, samples[0] = range []int{-5, 0, 3, 7} {
			checkBoth(t, p, samples)
		}
	}
	for i := range v {
		v[i] *= 3
		if i < 4 && v[i] > 0 {
			checkDecodeFault(t, p, v, api.ErrHead)
		}
	}
	checkDecode(t, p, v, api.Stats{Bins: []int{6, 0, 6, 0}, Count: 12, Sum: api.Wide{Lo: 45}, Squares: api.Wide{Lo: 801}})
	edges[1] = 0
	checkFault(t, p, api.ErrEdges)
}
