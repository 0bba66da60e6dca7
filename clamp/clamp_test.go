package clamp_test

import (
	"math"
	"math/big"
	"slices"
	"testing"

	"offertory/api"
	"offertory/clamp"
)

const (
	least    = math.MinInt
	greatest = math.MaxInt
	far      = 1 << 40
)

// draws are numbers that look drawn; each call has another.
type draws uint64

func (d *draws) next() uint64 {
	*d = *d*6364136223846793005 + 1442695040888963407
	return uint64(*d) ^ uint64(*d)>>29
}

func (d *draws) below(n int) int { return int(d.next() % uint64(n)) }

// any is a number of any length, and on both sides of 0.
func (d *draws) any() int { return int(d.next()) >> d.below(64) }

// bound is near what a bound may be at the most, near 0, or between.
func (d *draws) bound() int {
	switch d.below(4) {
	case 0:
		return []int{-far, 0, far}[d.below(3)] + d.below(5) - 2
	case 1:
		return d.below(100) - 50
	case 2:
		return d.any()
	}
	return d.below(2*far+1) - far
}

func (d *draws) rising(n int) []int {
	list := make([]int, 0, n)
	at := d.any() / 4
	for range n {
		list = append(list, at)
		at += 1 + d.below(1<<20)
	}
	return list
}

// plan may be any, one with an error or two among them.
func (d *draws) plan() api.Plan {
	p := api.Plan{Low: d.bound(), High: d.bound(), Most: 1 + d.below(65536), Edges: d.rising(d.below(65))}
	if p.Low > p.High && d.below(4) > 0 {
		p.Low, p.High = p.High, p.Low
	}
	if d.below(3) == 0 {
		p.High = p.Low + d.below(1000)
	}
	if d.below(6) == 0 {
		p.Most = []int{least, -1, 0, 65537, greatest}[d.below(5)]
	}
	if d.below(6) == 0 {
		p.Edges = append(p.Edges, d.any(), d.any())
	}
	return p
}

func number(n int) *big.Int { return big.NewInt(int64(n)) }

// apart is High - Low without bounds.
func apart(p api.Plan) *big.Int { return new(big.Int).Sub(number(p.High), number(p.Low)) }

// plainSound goes by the chapter's words, with numbers that have no ends.
func plainSound(p api.Plan) api.Errno {
	limit := new(big.Int).Lsh(big.NewInt(1), 40)
	low, high := number(p.Low), number(p.High)
	if low.Cmp(high) > 0 || apart(p).Cmp(limit) >= 0 || low.Cmp(new(big.Int).Neg(limit)) < 0 || high.Cmp(limit) > 0 {
		return api.ErrRange
	}
	if p.Most < 1 || p.Most > 65536 {
		return api.ErrCap
	}
	if len(p.Edges) > 64 {
		return api.ErrEdges
	}
	for i := range p.Edges {
		if i > 0 && !(p.Edges[i] > p.Edges[i-1]) {
			return api.ErrEdges
		}
	}
	return api.OK
}

// plainBits tries one n behind the other.
func plainBits(p api.Plan) int {
	n := 1
	for apart(p).Cmp(new(big.Int).Lsh(big.NewInt(1), uint(n))) >= 0 {
		n++
	}
	return n
}

func plainClamp(p api.Plan, x int) int {
	if x < p.Low {
		return p.Low
	}
	if x > p.High {
		return p.High
	}
	return x
}

func plainPlace(p api.Plan, x int) uint64 {
	return new(big.Int).Sub(number(plainClamp(p, x)), number(p.Low)).Uint64()
}

// samples are those at which an answer turns, and those at the ends.
func samples(p api.Plan) []int {
	list := []int{least, least + 1, -far - 1, -far, -1, 0, 1, far, far + 1, greatest - 1, greatest}
	for i := -2; i <= 2; i++ {
		list = append(list, p.Low+i, p.High+i)
	}
	return append(list, p.Low+(p.High-p.Low)/2, p.Low+(p.High-p.Low)/3)
}

// checkSample asks for a sample of a plan that may be.
func checkSample(t *testing.T, p api.Plan, x int) {
	t.Helper()
	if n, e := clamp.Clamp(p, x); n != plainClamp(p, x) || e != api.OK {
		t.Errorf("Clamp(%v, %d) is %d, %d, not %d", p, x, n, e, plainClamp(p, x))
	}
	if n, e := clamp.Place(p, x); n != plainPlace(p, x) || e != api.OK {
		t.Errorf("Place(%v, %d) is %d, %d, not %d", p, x, n, e, plainPlace(p, x))
	}
}

// checkFault: all four calls answer the error, and nothing beside it.
func checkFault(t *testing.T, p api.Plan, want api.Errno) {
	t.Helper()
	if e := clamp.Sound(p); e != want {
		t.Errorf("Sound(%v) is %d, not %d", p, e, want)
	}
	if n, e := clamp.Bits(p); n != 0 || e != want {
		t.Errorf("Bits(%v) is %d, %d, not 0, %d", p, n, e, want)
	}
	for _, x := range samples(p) {
		if n, e := clamp.Clamp(p, x); n != 0 || e != want {
			t.Errorf("Clamp(%v, %d) is %d, %d, not 0, %d", p, x, n, e, want)
		}
		if n, e := clamp.Place(p, x); n != 0 || e != want {
			t.Errorf("Place(%v, %d) is %d, %d, not 0, %d", p, x, n, e, want)
		}
	}
}

// checkPlan holds all four calls against the chapter's words, and looks whether the plan is the same behind them.
func checkPlan(t *testing.T, p api.Plan) {
	t.Helper()
	room := p.Edges[:cap(p.Edges)]
	low, high, most, count, edges := p.Low, p.High, p.Most, len(p.Edges), slices.Clone(room)
	if want := plainSound(p); want != api.OK {
		checkFault(t, p, want)
	} else {
		if e := clamp.Sound(p); e != api.OK {
			t.Errorf("Sound(%v) is %d, not OK", p, e)
		}
		if n, e := clamp.Bits(p); n != plainBits(p) || e != api.OK {
			t.Errorf("Bits(%v) is %d, %d, not %d", p, n, e, plainBits(p))
		}
		for _, x := range samples(p) {
			checkSample(t, p, x)
		}
	}
	if p.Low != low || p.High != high || p.Most != most || len(p.Edges) != count || !slices.Equal(room, edges) {
		t.Errorf("the plan was changed: its edges are %v, and were %v", room, edges)
	}
}

// rising are n edges from first on.
func rising(first, n int) []int {
	list := make([]int, 0, n+2)
	for i := range n {
		list = append(list, first+3*i)
	}
	return list
}

func TestSoundKnown(t *testing.T) {
	for _, c := range []struct {
		p    api.Plan
		want api.Errno
	}{
		{api.Plan{Most: 1}, api.OK},
		{api.Plan{Low: -4, High: 11, Most: 6, Edges: []int{0, 5, 20}}, api.OK},
		{api.Plan{Low: 5, High: 4, Most: 1}, api.ErrRange},
		{api.Plan{Low: 4, High: 4, Most: 1}, api.OK},
		{api.Plan{Low: 4, High: 5, Most: 1}, api.OK},
		{api.Plan{Low: -5, High: -4, Most: 1}, api.OK},
		{api.Plan{Low: -4, High: -5, Most: 1}, api.ErrRange},
		{api.Plan{High: far - 1, Most: 1}, api.OK},
		{api.Plan{High: far, Most: 1}, api.ErrRange},
		{api.Plan{High: far + 1, Most: 1}, api.ErrRange},
		{api.Plan{Low: 1, High: far, Most: 1}, api.OK},
		{api.Plan{Low: 2, High: far + 1, Most: 1}, api.ErrRange},
		{api.Plan{Low: far, High: far, Most: 1}, api.OK},
		{api.Plan{Low: far, High: far + 1, Most: 1}, api.ErrRange},
		{api.Plan{Low: far + 1, High: far + 1, Most: 1}, api.ErrRange},
		{api.Plan{Low: -far, High: -1, Most: 1}, api.OK},
		{api.Plan{Low: -far, High: 0, Most: 1}, api.ErrRange},
		{api.Plan{Low: -far, High: -far, Most: 1}, api.OK},
		{api.Plan{Low: -far - 1, High: -far, Most: 1}, api.ErrRange},
		{api.Plan{Low: -far - 1, High: -far - 1, Most: 1}, api.ErrRange},
		{api.Plan{Low: -far / 2, High: far/2 - 1, Most: 1}, api.OK},
		{api.Plan{Low: -far / 2, High: far / 2, Most: 1}, api.ErrRange},
		{api.Plan{Low: -far, High: far, Most: 1}, api.ErrRange},
		{api.Plan{Low: least, High: greatest, Most: 1}, api.ErrRange},
		{api.Plan{Low: greatest, High: least, Most: 1}, api.ErrRange},
		{api.Plan{Low: least, High: least, Most: 1}, api.ErrRange},
		{api.Plan{Low: greatest, High: greatest, Most: 1}, api.ErrRange},
		{api.Plan{Low: least, Most: 1}, api.ErrRange},
		{api.Plan{High: greatest, Most: 1}, api.ErrRange},
		{api.Plan{Low: -2, High: greatest, Most: 1}, api.ErrRange},
		{api.Plan{}, api.ErrCap},
		{api.Plan{Most: least}, api.ErrCap},
		{api.Plan{Most: -1}, api.ErrCap},
		{api.Plan{Most: 65536}, api.OK},
		{api.Plan{Most: 65537}, api.ErrCap},
		{api.Plan{Most: greatest}, api.ErrCap},
		{api.Plan{Most: 1, Edges: []int{}}, api.OK},
		{api.Plan{Most: 1, Edges: []int{7}}, api.OK},
		{api.Plan{Most: 1, Edges: rising(-50, 64)}, api.OK},
		{api.Plan{Most: 1, Edges: rising(-50, 65)}, api.ErrEdges},
		{api.Plan{Most: 1, Edges: rising(-50, 1000)}, api.ErrEdges},
		{api.Plan{Most: 1, Edges: make([]int, 64)}, api.ErrEdges},
		{api.Plan{Most: 1, Edges: []int{3, 3}}, api.ErrEdges},
		{api.Plan{Most: 1, Edges: []int{4, 3}}, api.ErrEdges},
		{api.Plan{Most: 1, Edges: []int{least}}, api.OK},
		{api.Plan{Most: 1, Edges: []int{greatest}}, api.OK},
		{api.Plan{Most: 1, Edges: []int{least, greatest}}, api.OK},
		{api.Plan{Most: 1, Edges: []int{least, least + 1, -1, 0, greatest - 1, greatest}}, api.OK},
		{api.Plan{Most: 1, Edges: []int{greatest, least}}, api.ErrEdges},
		{api.Plan{Most: 1, Edges: []int{least, least}}, api.ErrEdges},
		{api.Plan{Most: 1, Edges: []int{greatest, greatest}}, api.ErrEdges},
		{api.Plan{Most: 1, Edges: []int{1, least}}, api.ErrEdges},
		{api.Plan{Most: 1, Edges: []int{-2, greatest}}, api.OK},
	} {
		if e := clamp.Sound(c.p); e != c.want {
			t.Errorf("Sound(%v) is %d, not %d", c.p, e, c.want)
		}
		checkPlan(t, c.p)
	}
}

// Low and High each with each, at the ends of what they may be and of what an int holds.
func TestBoundsEachWithEach(t *testing.T) {
	var ends []int
	for _, n := range []int{-far, -far / 2, -1, 0, far / 2, far} {
		ends = append(ends, n-2, n-1, n, n+1, n+2)
	}
	ends = append(ends, least, least+1, least/2, -1<<41, -1<<32, 1<<32, 1<<41, greatest/2, greatest-1, greatest)
	for _, low := range ends {
		for _, high := range ends {
			checkPlan(t, api.Plan{Low: low, High: high, Most: 1})
		}
		for _, width := range []int{0, 1, 2, far - 2, far - 1, far, far + 1, 1<<62 - 1, 1 << 62, greatest} {
			checkPlan(t, api.Plan{Low: low, High: low + width, Most: 65536, Edges: rising(low, 3)})
		}
	}
}

func TestSoundEachMost(t *testing.T) {
	for n := -2; n <= 65540; n++ {
		want := api.OK
		if n < 1 || n > 65536 {
			want = api.ErrCap
		}
		if e := clamp.Sound(api.Plan{Most: n}); e != want {
			t.Errorf("Sound with Most %d is %d, not %d", n, e, want)
		}
	}
	for _, n := range []int{least, least + 1, -65536, -1 << 32, 1 << 32, 1<<32 + 1, 1 << 40, greatest - 1, greatest} {
		checkFault(t, api.Plan{Low: -3, High: 3, Most: n}, api.ErrCap)
	}
}

// One edge that is not above the one ahead of it, wherever it is.
func TestSoundEachEdge(t *testing.T) {
	for n := range 67 {
		checkPlan(t, api.Plan{Low: -3, High: 3, Most: 1, Edges: rising(-5, n)})
	}
	for _, n := range []int{2, 3, 10, 63, 64} {
		for i := 1; i < n; i++ {
			for _, below := range []int{0, 1, 100} {
				edges := rising(-5, n)
				edges[i] = edges[i-1] - below
				checkFault(t, api.Plan{Low: -3, High: 3, Most: 1, Edges: edges}, api.ErrEdges)
			}
		}
		for _, edge := range []int{least, greatest} {
			for i := range n {
				edges := rising(-5, n)
				edges[i] = edge
				checkPlan(t, api.Plan{Low: -3, High: 3, Most: 1, Edges: edges})
			}
		}
	}
}

// Edges that lie behind the list's end are none.
func TestSoundSpareRoom(t *testing.T) {
	room := append(rising(0, 64), 5, 4)
	for n := range 65 {
		p := api.Plan{Low: -3, High: 3, Most: 1, Edges: room[:n]}
		if e := clamp.Sound(p); e != api.OK {
			t.Errorf("Sound of %d edges, with others behind them, is %d", n, e)
		}
		checkPlan(t, p)
	}
}

// Edges have nothing to do with the bounds.
func TestSoundEdgesAnywhere(t *testing.T) {
	for _, edges := range [][]int{{-9}, {-3}, {3}, {9}, {-9, -8}, {8, 9}, {-9, 9}, {-3, 3}} {
		if e := clamp.Sound(api.Plan{Low: -3, High: 3, Most: 1, Edges: edges}); e != api.OK {
			t.Errorf("Sound with edges %v is %d", edges, e)
		}
	}
}

func TestWhichError(t *testing.T) {
	ranges := [][2]int{{1, 0}, {0, far}, {-far - 1, -far}, {far, far + 1}, {least, greatest}, {greatest, least}}
	mosts := []int{least, -1, 0, 65537, greatest}
	lists := [][]int{{1, 1}, {2, 1}, {1, 2, 3, 3}, rising(0, 65), make([]int, 65), {greatest, least}}
	for _, r := range ranges {
		for _, most := range mosts {
			checkFault(t, api.Plan{Low: r[0], High: r[1], Most: most}, api.ErrRange)
			for _, edges := range lists {
				checkFault(t, api.Plan{Low: r[0], High: r[1], Most: most, Edges: edges}, api.ErrRange)
			}
		}
		for _, edges := range lists {
			checkFault(t, api.Plan{Low: r[0], High: r[1], Most: 1, Edges: edges}, api.ErrRange)
		}
	}
	for _, most := range mosts {
		for _, edges := range lists {
			checkFault(t, api.Plan{Low: -1, High: 1, Most: most, Edges: edges}, api.ErrCap)
		}
	}
}

func TestBitsKnown(t *testing.T) {
	for _, c := range []struct{ width, want int }{
		{0, 1}, {1, 1}, {2, 2}, {3, 2}, {4, 3}, {7, 3}, {8, 4}, {255, 8}, {256, 9}, {65535, 16}, {65536, 17}, {1<<32 - 1, 32}, {1 << 32, 33}, {1<<39 - 1, 39}, {1 << 39, 40}, {far - 1, 40},
	} {
		for _, low := range []int{-far, -c.width, -c.width / 2, -1, 0, 1, far - c.width} {
			p := api.Plan{Low: low, High: low + c.width, Most: 1}
			if n, e := clamp.Bits(p); n != c.want || e != api.OK {
				t.Errorf("Bits(%v) is %d, %d, not %d", p, n, e, c.want)
			}
		}
	}
}

func TestBitsEachPower(t *testing.T) {
	for power := 1; power <= far; power *= 2 {
		for _, width := range []int{power - 1, power, power + 1} {
			for _, low := range []int{-far, -width - 7, -width, -width / 2, -1, 0, 1, 1000, far - width} {
				checkPlan(t, api.Plan{Low: low, High: low + width, Most: 2, Edges: []int{low}})
			}
		}
	}
}

func TestSamplesKnown(t *testing.T) {
	p := api.Plan{Low: -4, High: 11, Most: 6, Edges: []int{0, 5, 20}}
	for _, c := range []struct{ x, clamped, place int }{
		{least, -4, 0}, {-5, -4, 0}, {-4, -4, 0}, {-3, -3, 1}, {-1, -1, 3}, {0, 0, 4}, {1, 1, 5}, {10, 10, 14}, {11, 11, 15}, {12, 11, 15}, {greatest, 11, 15},
	} {
		if n, e := clamp.Clamp(p, c.x); n != c.clamped || e != api.OK {
			t.Errorf("Clamp(%d) is %d, %d, not %d", c.x, n, e, c.clamped)
		}
		if n, e := clamp.Place(p, c.x); n != uint64(c.place) || e != api.OK {
			t.Errorf("Place(%d) is %d, %d, not %d", c.x, n, e, c.place)
		}
	}
}

// All bounds are on one side of 0, or the greatest and the least that may be.
func TestSamplesFar(t *testing.T) {
	for _, c := range []struct {
		low, high, x, clamped int
		place                 uint64
	}{
		{1, far, least, 1, 0},
		{1, far, greatest, far, far - 1},
		{1, far, far, far, far - 1},
		{1, far, far - 1, far - 1, far - 2},
		{-far, -1, least, -far, 0},
		{-far, -1, greatest, -1, far - 1},
		{-far, -1, -far, -far, 0},
		{-far, -1, -2, -2, far - 2},
		{-far, -far, greatest, -far, 0},
		{far, far, least, far, 0},
		{7, 7, 0, 7, 0},
		{7, 7, 7, 7, 0},
		{7, 7, 8, 7, 0},
	} {
		p := api.Plan{Low: c.low, High: c.high, Most: 1}
		if n, e := clamp.Clamp(p, c.x); n != c.clamped || e != api.OK {
			t.Errorf("Clamp(%v, %d) is %d, %d, not %d", p, c.x, n, e, c.clamped)
		}
		if n, e := clamp.Place(p, c.x); n != c.place || e != api.OK {
			t.Errorf("Place(%v, %d) is %d, %d, not %d", p, c.x, n, e, c.place)
		}
	}
}

func TestSamplesEach(t *testing.T) {
	for low := -8; low <= 8; low++ {
		for high := low; high <= low+17; high++ {
			p := api.Plan{Low: low, High: high, Most: 3, Edges: []int{-2, 2}}
			for x := low - 3; x <= high+3; x++ {
				checkSample(t, p, x)
			}
		}
	}
}

func TestMany(t *testing.T) {
	d := draws(1)
	var counts [api.ErrDone + 1]int
	for range 20000 {
		p := d.plan()
		counts[plainSound(p)]++
		checkPlan(t, p)
		if plainSound(p) == api.OK {
			for range 5 {
				checkSample(t, p, d.any())
				checkSample(t, p, p.Low+int(d.next()%uint64(p.High-p.Low+1)))
			}
		}
	}
	for _, e := range []api.Errno{api.OK, api.ErrRange, api.ErrCap, api.ErrEdges} {
		if counts[e] < 500 {
			t.Errorf("only %d of the drawn plans are answered by %d", counts[e], e)
		}
	}
}

// Nothing is kept: what another call was given changes no answer.
func TestNothingIsKept(t *testing.T) {
	p := api.Plan{Low: -4, High: 11, Most: 6, Edges: []int{0, 5, 20}}
	d := draws(2)
	for range 2000 {
		other, x := d.plan(), d.any()
		clamp.Sound(other)
		clamp.Bits(other)
		clamp.Clamp(other, x)
		clamp.Place(other, x)
		e := clamp.Sound(p)
		n, f := clamp.Bits(p)
		k, g := clamp.Clamp(p, 12)
		place, h := clamp.Place(p, 12)
		if e != api.OK || n != 4 || f != api.OK || k != 11 || g != api.OK || place != 15 || h != api.OK {
			t.Fatalf("behind calls with %v and %d the answers are %d; %d, %d; %d, %d; %d, %d", other, x, e, n, f, k, g, place, h)
		}
	}
}

// A list that is changed behind a call is asked again by the next one.
func TestEdgesAreNotKept(t *testing.T) {
	edges := []int{1, 2, 3}
	p := api.Plan{High: 5, Most: 1, Edges: edges}
	for _, c := range []struct {
		last int
		want api.Errno
	}{{3, api.OK}, {2, api.ErrEdges}, {3, api.OK}, {least, api.ErrEdges}, {greatest, api.OK}} {
		edges[2] = c.last
		if e := clamp.Sound(p); e != c.want {
			t.Errorf("Sound with the last edge %d is %d, not %d", c.last, e, c.want)
		}
	}
}
