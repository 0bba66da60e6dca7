package bin_test

import (
	"math"
	"slices"
	"testing"

	"offertory/api"
	"offertory/bin"
)

const (
	least    = math.MinInt
	greatest = math.MaxInt
	far      = 1 << 40
)

// draws are numbers that look drawn; each call has another.
type draws uint64

func (d *draws) next() uint64 {
	*d = *d*6364136223846793005 + 1442695040888963407
	return uint64(*d) ^ uint64(*d)>>29
}

func (d *draws) below(n int) int { return int(d.next() % uint64(n)) }

// any is a number of any length, and on both sides of 0.
func (d *draws) any() int { return int(d.next()) >> d.below(64) }

// plan is one that may be; its edges lie on both sides of its bounds, or all on one.
func (d *draws) plan() api.Plan {
	low := d.below(2*far) - far
	if d.below(2) == 0 {
		low = d.below(200) - 100
	}
	p := api.Plan{Low: low, High: min(low+d.below(1+d.below(far)), far), Most: 1 + d.below(200)}
	if d.below(2) == 0 {
		p.High = min(low+d.below(100), far)
	}
	step := 1 + (p.High-p.Low)/(1+d.below(40))
	at := p.Low - d.below(1+20*step)
	for range d.below(65) {
		p.Edges = append(p.Edges, at)
		at += 1 + d.below(step)
	}
	return p
}

func (d *draws) sample(p api.Plan) int {
	switch d.below(6) {
	case 0:
		return d.any()
	case 1:
		return p.High + d.below(3) - 1
	case 2:
		return p.Low + d.below(3) - 1
	case 3:
		if len(p.Edges) > 0 {
			return p.Edges[d.below(len(p.Edges))] + d.below(3) - 1
		}
	}
	return p.Low + d.below(p.High-p.Low+1)
}

func (d *draws) samples(p api.Plan, n int) []int {
	list := make([]int, 0, n+3)
	for range n {
		list = append(list, d.sample(p))
	}
	return list
}

// plainFind looks at all edges one by one.
func plainFind(p api.Plan, x int) int {
	if x < p.Low {
		x = p.Low
	}
	if x > p.High {
		x = p.High
	}
	n := 0
	for _, edge := range p.Edges {
		if !(edge > x) {
			n++
		}
	}
	return n
}

// plainCount goes through all samples for each bin.
func plainCount(p api.Plan, samples []int) []int {
	var counts []int
	for i := 0; i <= len(p.Edges); i++ {
		n := 0
		for _, x := range samples {
			if plainFind(p, x) == i {
				n++
			}
		}
		counts = append(counts, n)
	}
	return counts
}

func checkFind(t *testing.T, p api.Plan, x int) {
	t.Helper()
	if n, e := bin.Find(p, x); n != plainFind(p, x) || e != api.OK {
		t.Errorf("Find(%v, %d) is %d, %d, not %d", p, x, n, e, plainFind(p, x))
	}
}

func checkCount(t *testing.T, p api.Plan, samples []int) {
	t.Helper()
	list, e := bin.Count(p, samples)
	if e != api.OK || !slices.Equal(list, plainCount(p, samples)) {
		t.Errorf("Count(%v, %v) is %v, %d, not %v", p, samples, list, e, plainCount(p, samples))
	}
	sum := 0
	for _, n := range list {
		sum += n
	}
	if len(list) != len(p.Edges)+1 || sum != len(samples) {
		t.Errorf("Count(%v) of %d samples has %d bins with %d samples", p, len(samples), len(list), sum)
	}
}

// turns are the samples at which a bin may turn, and those at the ends.
func turns(p api.Plan) []int {
	list := []int{least, least + 1, -far - 1, -far, -1, 0, 1, far, far + 1, greatest - 1, greatest}
	for i := -1; i <= 1; i++ {
		list = append(list, p.Low+i, p.High+i)
		for _, edge := range p.Edges {
			list = append(list, edge+i)
		}
	}
	return list
}

// checkTurns holds both calls against the chapter's words, and looks whether the plan is the same behind them.
func checkTurns(t *testing.T, p api.Plan) {
	t.Helper()
	room := p.Edges[:cap(p.Edges)]
	edges := slices.Clone(room)
	all := turns(p)
	for _, x := range all {
		checkFind(t, p, x)
		checkCount(t, p, []int{x})
	}
	checkCount(t, p, all[:min(len(all), p.Most)])
	if !slices.Equal(room, edges) {
		t.Errorf("edges were changed: they are %v, and were %v", room, edges)
	}
}

// checkFault: both calls answer the error, and nothing beside it, also where there are too many samples.
func checkFault(t *testing.T, p api.Plan, want api.Errno) {
	t.Helper()
	for _, x := range turns(p) {
		if n, e := bin.Find(p, x); n != 0 || e != want {
			t.Errorf("Find(%v, %d) is %d, %d, not 0, %d", p, x, n, e, want)
		}
	}
	for _, samples := range [][]int{nil, {}, {1}, {1, 2}, make([]int, 7), make([]int, 65536), make([]int, 65537)} {
		if list, e := bin.Count(p, samples); len(list) != 0 || e != want {
			t.Errorf("Count(%v) of %d samples is %v, %d, not %d", p, len(samples), list, e, want)
		}
	}
}

func rising(first, step, n int) []int {
	list := make([]int, 0, n+2)
	for i := range n {
		list = append(list, first+step*i)
	}
	return list
}

func TestFindKnown(t *testing.T) {
	p := api.Plan{Low: -4, High: 11, Most: 6, Edges: []int{0, 5, 20}}
	for _, c := range []struct{ x, want int }{
		{least, 0}, {-5, 0}, {-4, 0}, {-3, 0}, {-1, 0}, {0, 1}, {1, 1}, {4, 1}, {5, 2}, {6, 2}, {10, 2}, {11, 2}, {12, 2}, {19, 2}, {20, 2}, {21, 2}, {greatest, 2},
	} {
		if n, e := bin.Find(p, c.x); n != c.want || e != api.OK {
			t.Errorf("Find(%d) is %d, %d, not %d", c.x, n, e, c.want)
		}
	}
	checkTurns(t, p)
}

// Edges at and beyond the bounds: a sample counts as it is clamped.
func TestFindEdgesBeyond(t *testing.T) {
	for _, c := range []struct {
		edges             []int
		below, mid, above int
	}{
		{nil, 0, 0, 0},
		{[]int{}, 0, 0, 0},
		{[]int{-9}, 1, 1, 1},
		{[]int{-4}, 1, 1, 1},
		{[]int{-3}, 0, 1, 1},
		{[]int{10}, 0, 0, 1},
		{[]int{11}, 0, 0, 1},
		{[]int{12}, 0, 0, 0},
		{[]int{99}, 0, 0, 0},
		{[]int{least}, 1, 1, 1},
		{[]int{greatest}, 0, 0, 0},
		{[]int{least, greatest}, 1, 1, 1},
		{[]int{least, least + 1, -5, -4, 11, 12, greatest - 1, greatest}, 4, 4, 5},
		{[]int{-7, -6, -5}, 3, 3, 3},
		{[]int{12, 13, 14}, 0, 0, 0},
		{[]int{-4, 11}, 1, 1, 2},
	} {
		p := api.Plan{Low: -4, High: 11, Most: 60, Edges: c.edges}
		for _, x := range []int{least, -100, -9, -5, -4} {
			if n, e := bin.Find(p, x); n != c.below || e != api.OK {
				t.Errorf("Find with edges %v of %d is %d, %d, not %d", c.edges, x, n, e, c.below)
			}
		}
		if n, e := bin.Find(p, 3); n != c.mid || e != api.OK {
			t.Errorf("Find with edges %v of 3 is %d, %d, not %d", c.edges, n, e, c.mid)
		}
		for _, x := range []int{11, 12, 50, 99, 100, greatest} {
			if n, e := bin.Find(p, x); n != c.above || e != api.OK {
				t.Errorf("Find with edges %v of %d is %d, %d, not %d", c.edges, x, n, e, c.above)
			}
		}
		checkTurns(t, p)
	}
}

// Each number of edges that may be, close and far from each other.
func TestFindEachNumberOfEdges(t *testing.T) {
	for n := range 65 {
		for _, step := range []int{1, 2, 3, 1000} {
			for _, first := range []int{-100, -64, -1, 0, 7} {
				checkTurns(t, api.Plan{Low: -80, High: 90, Most: 400, Edges: rising(first, step, n)})
			}
		}
		checkTurns(t, api.Plan{Low: -far, High: -1, Most: 400, Edges: rising(-far-far/10, far/50, n)})
		checkTurns(t, api.Plan{Low: 1, High: far, Most: 400, Edges: rising(-far/10, far/50, n)})
		checkTurns(t, api.Plan{Low: 5, High: 5, Most: 400, Edges: rising(-20, 1, n)})
	}
}

// Edges that lie behind the list's end are none.
func TestSpareRoom(t *testing.T) {
	room := rising(-10, 1, 64)
	for n := range 65 {
		p := api.Plan{Low: -30, High: 90, Most: 400, Edges: room[:n]}
		if at, e := bin.Find(p, 90); at != n || e != api.OK {
			t.Errorf("Find above %d edges, with others behind them, is %d, %d", n, at, e)
		}
		checkTurns(t, p)
	}
}

func TestFaults(t *testing.T) {
	sound := api.Plan{Low: -4, High: 11, Most: 6, Edges: []int{0, 5, 20}}
	ranges := [][2]int{{1, 0}, {0, far}, {-far - 1, -far}, {far, far + 1}, {least, greatest}, {greatest, least}}
	mosts := []int{least, -1, 0, 65537, greatest}
	lists := [][]int{{1, 1}, {2, 1}, {1, 2, 3, 3}, rising(0, 3, 65), make([]int, 65), {greatest, least}}
	checkFault(t, api.Plan{}, api.ErrCap)
	for _, r := range ranges {
		p := sound
		p.Low, p.High = r[0], r[1]
		checkFault(t, p, api.ErrRange)
		for _, p.Most = range mosts {
			checkFault(t, p, api.ErrRange)
		}
		for _, p.Edges = range lists {
			p.Most = 6
			checkFault(t, p, api.ErrRange)
			p.Most = 0
			checkFault(t, p, api.ErrRange)
		}
	}
	for _, most := range mosts {
		p := sound
		p.Most = most
		checkFault(t, p, api.ErrCap)
		for _, p.Edges = range lists {
			checkFault(t, p, api.ErrCap)
		}
	}
	for _, edges := range lists {
		p := sound
		p.Edges = edges
		checkFault(t, p, api.ErrEdges)
	}
}

func TestCountKnown(t *testing.T) {
	p := api.Plan{Low: -4, High: 11, Most: 6, Edges: []int{0, 5, 20}}
	for _, c := range []struct{ samples, want []int }{
		{nil, []int{0, 0, 0, 0}},
		{[]int{}, []int{0, 0, 0, 0}},
		{[]int{-5, 0, 1, 5, 30}, []int{1, 2, 2, 0}},
		{[]int{-1}, []int{1, 0, 0, 0}},
		{[]int{0}, []int{0, 1, 0, 0}},
		{[]int{5}, []int{0, 0, 1, 0}},
		{[]int{20}, []int{0, 0, 1, 0}},
		{[]int{7, 7, 7, 7, 7, 7}, []int{0, 0, 6, 0}},
		{[]int{greatest, least, 4, least, 5, greatest}, []int{2, 1, 3, 0}},
	} {
		if list, e := bin.Count(p, c.samples); !slices.Equal(list, c.want) || e != api.OK {
			t.Errorf("Count(%v) is %v, %d, not %v", c.samples, list, e, c.want)
		}
		checkCount(t, p, c.samples)
	}
}

// Samples beyond the bounds are counted in the bound's bin, whatever edges lie out there.
func TestCountBeyond(t *testing.T) {
	p := api.Plan{Low: 10, High: 20, Most: 9, Edges: []int{least, 0, 10, 15, 20, 21, 30, greatest}}
	list, e := bin.Count(p, []int{least, -1, 9, 10, 14, 15, 20, 40, greatest})
	if e != api.OK || !slices.Equal(list, []int{0, 0, 0, 5, 1, 3, 0, 0, 0}) {
		t.Errorf("Count is %v, %d", list, e)
	}
}

// As many samples as may be, one fewer and one more.
func TestCountMost(t *testing.T) {
	for _, most := range []int{1, 2, 3, 6, 100, 65535, 65536} {
		p := api.Plan{Low: -4, High: 11, Most: most, Edges: []int{0, 5}}
		for _, n := range []int{0, 1, most - 1, most} {
			if n > most {
				continue
			}
			if list, e := bin.Count(p, make([]int, n)); e != api.OK || !slices.Equal(list, []int{0, n, 0}) {
				t.Errorf("Count of %d samples with Most %d is %v, %d", n, most, list, e)
			}
		}
		for _, n := range []int{most + 1, most + 2, 2*most + 1, 70000} {
			if list, e := bin.Count(p, make([]int, n)); e != api.ErrCap || len(list) != 0 {
				t.Errorf("Count of %d samples with Most %d is %v, %d", n, most, list, e)
			}
		}
	}
}

// Without edges there is one bin.
func TestCountWithoutEdges(t *testing.T) {
	for _, edges := range [][]int{nil, {}} {
		p := api.Plan{Low: -4, High: 11, Most: 4, Edges: edges}
		for n := range 5 {
			if list, e := bin.Count(p, make([]int, n)); e != api.OK || !slices.Equal(list, []int{n}) {
				t.Errorf("Count of %d samples without edges is %v, %d", n, list, e)
			}
		}
		if list, e := bin.Count(p, make([]int, 5)); e != api.ErrCap || len(list) != 0 {
			t.Errorf("Count of too many without edges is %v, %d", list, e)
		}
	}
}

func TestMany(t *testing.T) {
	d := draws(1)
	for range 3000 {
		p := d.plan()
		for range 10 {
			checkFind(t, p, d.sample(p))
		}
		samples := d.samples(p, d.below(p.Most+1))
		checkCount(t, p, samples)
		back := slices.Clone(samples)
		slices.Reverse(back)
		checkCount(t, p, back)
	}
}

func TestInputsStay(t *testing.T) {
	d := draws(2)
	for range 500 {
		p := d.plan()
		samples := d.samples(p, d.below(p.Most+4))
		same := api.Plan{Low: p.Low, High: p.High, Most: p.Most, Edges: slices.Clone(p.Edges[:cap(p.Edges)])}
		before := slices.Clone(samples[:cap(samples)])
		bin.Count(p, samples)
		bin.Find(p, d.sample(p))
		if p.Low != same.Low || p.High != same.High || p.Most != same.Most || !slices.Equal(p.Edges[:cap(p.Edges)], same.Edges) {
			t.Fatalf("the plan was changed to %v from %v", p, same)
		}
		if !slices.Equal(samples[:cap(samples)], before) {
			t.Fatalf("samples were changed to %v from %v", samples[:cap(samples)], before)
		}
	}
}

// fill writes over an answer, spare room included.
func fill(list []int) {
	for i := range list[:cap(list)] {
		list[:cap(list)][i] = -77
	}
}

// Whoever writes over an answer changes neither another answer nor what was handed in.
func TestAnswersAreApart(t *testing.T) {
	for _, edges := range [][]int{nil, {0}, {0, 5, 20}, rising(-9, 1, 64)} {
		p := api.Plan{Low: -4, High: 11, Most: 6, Edges: edges}
		samples := append(make([]int, 0, 90), -5, 0, 1, 5, 30)
		before, room := slices.Clone(edges), slices.Clone(samples[:cap(samples)])
		want := plainCount(p, samples)
		first, _ := bin.Count(p, samples)
		second, _ := bin.Count(p, samples)
		fill(first)
		if !slices.Equal(second, want) || !slices.Equal(edges, before) || !slices.Equal(samples[:cap(samples)], room) {
			t.Errorf("writing over an answer made %v, %v, %v", second, edges, samples)
		}
		if third, _ := bin.Count(p, samples); !slices.Equal(third, want) {
			t.Errorf("behind writing over an answer, Count is %v, not %v", third, want)
		}
	}
}

// Nothing is kept: what another call was given changes no answer, and a list that was changed is looked at again.
func TestNothingIsKept(t *testing.T) {
	edges, samples := []int{0, 5, 20}, []int{-5, 0, 1, 5, 30}
	p := api.Plan{Low: -4, High: 11, Most: 6, Edges: edges}
	d := draws(3)
	for range 500 {
		other := d.plan()
		bin.Count(other, d.samples(other, d.below(other.Most+2)))
		bin.Find(other, d.any())
		bin.Find(api.Plan{}, 4)
		n, e := bin.Find(p, 5)
		list, f := bin.Count(p, samples)
		if n != 2 || e != api.OK || !slices.Equal(list, []int{1, 2, 2, 0}) || f != api.OK {
			t.Fatalf("behind calls with %v the answers are %d, %d; %v, %d", other, n, e, list, f)
		}
	}
	for _, edges[1] = range []int{1, 2, 5, 6, 19} {
		for _, samples[0] = range []int{-5, 0, 3, 7} {
			checkTurns(t, p)
			checkCount(t, p, samples)
		}
	}
	edges[1] = 0
	checkFault(t, p, api.ErrEdges)
}
