package bell_test

import (
	"cmp"
	"math"
	"slices"
	"testing"

	"offertory/api"
	"offertory/bell"
)

// draws are numbers that look drawn; each call has another.
type draws uint64

func (d *draws) next() uint64 {
	*d = *d*6364136223846793005 + 1442695040888963407
	return uint64(*d) ^ uint64(*d)>>29
}

func (d *draws) below(n int) int { return int(d.next() >> 8 % uint64(n)) }

func (d *draws) oneOf(list []int) int { return list[d.below(len(list))] }

func (d *draws) mixed(list []int) []int {
	list = slices.Clone(list)
	for i := range list {
		j := i + d.below(len(list)-i)
		list[i], list[j] = list[j], list[i]
	}
	return list
}

// anyone are numbers for whom it may ring: any.
func anyone() []int {
	return []int{math.MinInt, math.MinInt + 1, -1 << 32, -65, -2, -1, 0, 1, 2, 63, 64, 65, 1 << 32, 1<<32 + 1, math.MaxInt - 1, math.MaxInt}
}

// moments are some for which it may be set, rising, both ends among them.
func moments() []int {
	return []int{0, 1, 2, 7, 255, 256, 1 << 31, 1<<32 - 1, 1 << 32, 1<<32 + 1, 1 << 39, api.MaxTime - 1, api.MaxTime}
}

// noMoments are those for which it may not be set: of some, the lowest bits would be fine.
func noMoments() []int {
	return []int{
		math.MinInt, math.MinInt + 1, math.MinInt + 5, -api.MaxTime - 1, -api.MaxTime, -1 << 32, -1<<32 + 5, -5, -2, -1,
		api.MaxTime + 1, api.MaxTime + 2, api.MaxTime + 5, 2 * api.MaxTime, 2*api.MaxTime + 5, 1 << 48, 1<<62 + 5, math.MaxInt - 1, math.MaxInt,
	}
}

// numbers are moments, numbers that are none, and any others.
func numbers() []int { return append(append(moments(), noMoments()...), anyone()...) }

type ring struct{ who, at int }

// plain is a list in no order, which is looked through.
type plain []ring

func (p *plain) stop(who int) bool {
	before := len(*p)
	*p = slices.DeleteFunc(*p, func(r ring) bool { return r.who == who })
	return len(*p) < before
}

func (p *plain) set(who, at int) api.Errno {
	if at < 0 || at > 1<<40 {
		return api.ErrArg
	}
	p.stop(who)
	*p = append(*p, ring{who, at})
	return api.OK
}

func (p plain) first() (ring, bool) {
	if len(p) == 0 {
		return ring{}, false
	}
	first := p[0]
	for _, r := range p {
		if r.at < first.at || r.at == first.at && r.who < first.who {
			first = r
		}
	}
	return first, true
}

func (p plain) next() (int, bool) {
	first, ok := p.first()
	return first.at, ok
}

func (p *plain) strike(now int) (int, bool) {
	first, ok := p.first()
	if !ok || first.at > now {
		return 0, false
	}
	p.stop(first.who)
	return first.who, true
}

// pair is a bell and a plain list, which are told the same and have to answer the same; behind each call Next does, too.
type pair struct {
	t     *testing.T
	bell  *bell.Bell
	plain plain
}

func newPair(t *testing.T) *pair { return &pair{t: t, bell: bell.New()} }

func (p *pair) set(who, at int) {
	p.t.Helper()
	want := p.plain.set(who, at)
	if e := p.bell.Set(who, at); e != want {
		p.t.Fatalf("Set(%d, %d) is %d, not %d", who, at, e, want)
	}
	p.next()
}

func (p *pair) stop(who int) {
	p.t.Helper()
	want := p.plain.stop(who)
	if would := p.bell.Stop(who); would != want {
		p.t.Fatalf("Stop(%d) is %t, not %t", who, would, want)
	}
	p.next()
}

func (p *pair) strike(now int) {
	p.t.Helper()
	want, rings := p.plain.strike(now)
	if who, ok := p.bell.Strike(now); who != want || ok != rings {
		p.t.Fatalf("Strike(%d) is %d, %t, not %d, %t", now, who, ok, want, rings)
	}
	p.next()
}

func (p *pair) next() {
	p.t.Helper()
	want, rings := p.plain.next()
	for range 2 {
		if at, ok := p.bell.Next(); at != want || ok != rings {
			p.t.Fatalf("Next() is %d, %t, not %d, %t", at, ok, want, rings)
		}
	}
}

// ringOut strikes ahead of each moment and at it, until it rings for nobody.
func (p *pair) ringOut() {
	p.t.Helper()
	for len(p.plain) > 0 {
		at, _ := p.plain.next()
		p.strike(at - 1)
		p.strike(at)
	}
	p.strike(api.MaxTime)
	p.strike(math.MaxInt)
}

func checkSet(t *testing.T, b *bell.Bell, who, at int, want api.Errno) {
	t.Helper()
	if e := b.Set(who, at); e != want {
		t.Errorf("Set(%d, %d) is %d, not %d", who, at, e, want)
	}
}

func checkStop(t *testing.T, b *bell.Bell, who int, want bool) {
	t.Helper()
	if would := b.Stop(who); would != want {
		t.Errorf("Stop(%d) is %t, not %t", who, would, want)
	}
}

func checkStrike(t *testing.T, b *bell.Bell, now, want int) {
	t.Helper()
	if who, ok := b.Strike(now); who != want || !ok {
		t.Errorf("Strike(%d) is %d, %t, not %d", now, who, ok, want)
	}
}

func checkSilent(t *testing.T, b *bell.Bell, now int) {
	t.Helper()
	if who, ok := b.Strike(now); who != 0 || ok {
		t.Errorf("Strike(%d) is %d, %t, not 0, false", now, who, ok)
	}
}

func checkNext(t *testing.T, b *bell.Bell, want int) {
	t.Helper()
	if at, ok := b.Next(); at != want || !ok {
		t.Errorf("Next() is %d, %t, not %d", at, ok, want)
	}
}

func checkNobody(t *testing.T, b *bell.Bell) {
	t.Helper()
	for _, now := range numbers() {
		checkSilent(t, b, now)
	}
	if at, ok := b.Next(); at != 0 || ok {
		t.Errorf("Next() is %d, %t, not 0, false", at, ok)
	}
}

func TestNew(t *testing.T) {
	if bell.New() == nil {
		t.Fatal("New() is nil")
	}
	checkNobody(t, bell.New())
	for _, who := range numbers() {
		checkStop(t, bell.New(), who, false)
	}
	b := bell.New()
	for _, who := range numbers() {
		checkStop(t, b, who, false)
		checkNobody(t, b)
	}
	checkSet(t, b, 3, 5, api.OK)
	checkStrike(t, b, 5, 3)
	checkNobody(t, b)
}

// A Bell that New did not make is as one that New made.
func TestEmptyBell(t *testing.T) {
	var b bell.Bell
	checkNobody(t, &b)
	checkStop(t, &b, 0, false)
	checkSet(t, &b, 0, api.MaxTime+1, api.ErrArg)
	checkNobody(t, &b)
	checkSet(t, &b, 7, 9, api.OK)
	checkNext(t, &b, 9)
	checkStop(t, &b, 7, true)
	checkNobody(t, &b)
}

func TestNil(t *testing.T) {
	var b *bell.Bell
	for _, who := range numbers() {
		for _, at := range numbers() {
			checkSet(t, b, who, at, api.ErrArg)
		}
		checkStop(t, b, who, false)
		checkNobody(t, b)
	}
}

func TestSetKnown(t *testing.T) {
	b := bell.New()
	for who, at := range []int{9, 3, 9, 5, 3} {
		checkSet(t, b, who, at, api.OK)
	}
	for _, c := range []struct{ at, who int }{{3, 1}, {3, 4}, {5, 3}, {9, 0}, {9, 2}} {
		checkNext(t, b, c.at)
		checkSilent(t, b, c.at-1)
		checkNext(t, b, c.at)
		checkStrike(t, b, c.at, c.who)
	}
	checkNobody(t, b)
}

// Anyone at any moment: it rings at it and not ahead of it, once, and also if it is struck late alone.
func TestSetOne(t *testing.T) {
	for _, who := range anyone() {
		for _, at := range moments() {
			b := bell.New()
			checkSet(t, b, who, at, api.OK)
			checkNext(t, b, at)
			for _, now := range numbers() {
				if now < at {
					checkSilent(t, b, now)
				}
			}
			checkSilent(t, b, at-1)
			checkNext(t, b, at)
			checkStrike(t, b, at, who)
			checkNobody(t, b)
			checkStop(t, b, who, false)
			for _, now := range numbers() {
				if now >= at {
					checkSet(t, b, who, at, api.OK)
					checkStrike(t, b, now, who)
					checkNobody(t, b)
				}
			}
		}
	}
}

func TestSetNoMomentOfNobody(t *testing.T) {
	for _, who := range anyone() {
		b := bell.New()
		for _, at := range noMoments() {
			checkSet(t, b, who, at, api.ErrArg)
			checkNobody(t, b)
			checkStop(t, b, who, false)
		}
		checkSet(t, b, who, 5, api.OK)
		checkNext(t, b, 5)
	}
}

// Who was set before rings when it was set for; who was stopped, or has rung, does not ring; nor does anyone else.
func TestSetNoMomentOfSomebody(t *testing.T) {
	for _, who := range anyone() {
		for _, at := range moments() {
			b := bell.New()
			for _, bad := range noMoments() {
				checkSet(t, b, who, at, api.OK)
				checkSet(t, b, who, bad, api.ErrArg)
				checkNext(t, b, at)
				checkSilent(t, b, at-1)
				checkStrike(t, b, at, who)
				checkSet(t, b, who, bad, api.ErrArg)
				checkNobody(t, b)
				checkStop(t, b, who, false)
				checkSet(t, b, who, at, api.OK)
				checkSet(t, b, who, bad, api.ErrArg)
				checkStop(t, b, who, true)
				checkSet(t, b, who, bad, api.ErrArg)
				checkStop(t, b, who, false)
				checkNobody(t, b)
			}
		}
	}
}

func TestSetNoMomentAmongMany(t *testing.T) {
	d := draws(1)
	for _, bad := range noMoments() {
		p := newPair(t)
		for range 40 {
			p.set(d.below(30), d.below(9))
		}
		for who := range 40 {
			p.set(who, bad)
		}
		p.ringOut()
		for who := range 40 {
			p.set(who, bad)
		}
		p.ringOut()
	}
}

// It rings at the moment it was set for last, once: an earlier one, a later one, the same.
func TestSetAnew(t *testing.T) {
	for _, who := range anyone() {
		for _, first := range moments() {
			for _, second := range moments() {
				b := bell.New()
				checkSet(t, b, who, first, api.OK)
				checkSet(t, b, who, second, api.OK)
				checkNext(t, b, second)
				checkSilent(t, b, second-1)
				checkStrike(t, b, second, who)
				checkNobody(t, b)
				checkStop(t, b, who, false)
				checkSet(t, b, who, first, api.OK) // it has rung
				checkNext(t, b, first)
				checkStop(t, b, who, true)
				checkSet(t, b, who, second, api.OK) // it was stopped
				checkNext(t, b, second)
				checkSilent(t, b, second-1)
				checkStrike(t, b, math.MaxInt, who)
				checkNobody(t, b)
			}
		}
	}
}

// Each of many is set anew, to each place among them.
func TestSetAnewAmongMany(t *testing.T) {
	d := draws(2)
	for n := 1; n <= 20; n++ {
		for who := range n {
			for at := range 2*n + 1 {
				p := newPair(t)
				for _, other := range d.mixed(upTo(n)) {
					p.set(other, 2*other)
				}
				p.set(who, at)
				p.ringOut()
			}
		}
	}
}

func TestSetManyTimes(t *testing.T) {
	p, d := newPair(t), draws(3)
	for range 3000 {
		p.set(5, d.oneOf(moments()))
		p.set(6, d.oneOf(moments()))
	}
	p.ringOut()
}

func upTo(n int) []int {
	var list []int
	for i := range n {
		list = append(list, i)
	}
	return list
}

func TestStopKnown(t *testing.T) {
	b := bell.New()
	checkSet(t, b, 1, 4, api.OK)
	checkSet(t, b, 2, 6, api.OK)
	checkSet(t, b, 3, 5, api.OK)
	checkStop(t, b, 4, false)
	checkStop(t, b, 6, false)
	checkStop(t, b, 1, true)
	checkStop(t, b, 1, false)
	checkNext(t, b, 5)
	checkStrike(t, b, 9, 3)
	checkStop(t, b, 3, false)
	checkStop(t, b, 2, true)
	checkStop(t, b, 2, false)
	checkNobody(t, b)
}

// Each of many is stopped, twice; all others ring as they would.
func TestStopEach(t *testing.T) {
	d := draws(4)
	for n := 1; n <= 24; n++ {
		for who := range n {
			for _, spread := range []int{1, 3, 100} {
				for _, order := range [][]int{upTo(n), d.mixed(upTo(n))} {
					p := newPair(t)
					for i, other := range order {
						p.set(other, i%spread)
					}
					p.stop(who)
					p.stop(who)
					p.stop(n)
					p.stop(-1)
					p.ringOut()
					p.stop(who)
				}
			}
		}
	}
}

// All are stopped, in any order; and some of them, ahead of the others' ringing.
func TestStopMany(t *testing.T) {
	d := draws(5)
	for n := range 70 {
		for range 5 {
			p, some := newPair(t), d.below(n+1)
			for _, who := range d.mixed(upTo(n)) {
				p.set(who, d.below(20))
			}
			for _, who := range d.mixed(upTo(n))[some:] {
				p.stop(who)
			}
			p.ringOut()
			for who := range n {
				p.stop(who)
			}
			checkNobody(t, p.bell)
		}
	}
}

func TestStopOfNoMoment(t *testing.T) {
	for _, who := range anyone() {
		for _, bad := range noMoments() {
			b := bell.New()
			checkSet(t, b, who, bad, api.ErrArg)
			checkStop(t, b, who, false)
			checkSet(t, b, who, 3, api.OK)
			checkSet(t, b, who, bad, api.ErrArg)
			checkStop(t, b, who, true)
			checkStop(t, b, who, false)
			checkNobody(t, b)
		}
	}
}

// A call answers for one alone, however late it is; the next call for the next.
func TestStrikeOneByOne(t *testing.T) {
	for _, now := range []int{7, 8, 1 << 32, api.MaxTime, api.MaxTime + 1, math.MaxInt} {
		b := bell.New()
		for _, who := range []int{3, 1, 2} {
			checkSet(t, b, who, 2*who+1, api.OK)
		}
		for who := 1; who <= 3; who++ {
			checkNext(t, b, 2*who+1)
			checkStrike(t, b, now, who)
		}
		checkNobody(t, b)
	}
}

// Ahead of the first moment nothing is changed, however often it is struck.
func TestStrikeAhead(t *testing.T) {
	for _, at := range moments() {
		b := bell.New()
		checkSet(t, b, 4, at, api.OK)
		checkSet(t, b, 5, api.MaxTime, api.OK)
		checkSet(t, b, 3, at, api.OK)
		for range 3 {
			for _, now := range numbers() {
				if now < at {
					checkSilent(t, b, now)
				}
			}
			checkNext(t, b, at)
		}
		checkStrike(t, b, at, 3)
		checkStrike(t, b, at, 4)
		checkNext(t, b, api.MaxTime)
		checkStrike(t, b, api.MaxTime, 5)
		checkNobody(t, b)
	}
}

func TestStrikeBelowZero(t *testing.T) {
	b := bell.New()
	for _, who := range anyone() {
		checkSet(t, b, who, 0, api.OK)
	}
	for _, now := range numbers() {
		if now < 0 {
			checkSilent(t, b, now)
			checkNext(t, b, 0)
		}
	}
	for _, who := range anyone() { // they rise
		checkStrike(t, b, 0, who)
	}
	checkNobody(t, b)
}

// Of one moment the least rings first, in whichever order they were set.
func TestStrikeTies(t *testing.T) {
	least := []int{math.MinInt, -3, 0, 1, 64, math.MaxInt}
	for _, at := range []int{0, 5, api.MaxTime} {
		for _, order := range orders(least) {
			b := bell.New()
			for _, who := range order {
				checkSet(t, b, who, at, api.OK)
			}
			for _, who := range least {
				checkNext(t, b, at)
				checkStrike(t, b, at, who)
			}
			checkNobody(t, b)
		}
	}
}

// The moment comes ahead of the number.
func TestStrikeMomentFirst(t *testing.T) {
	for _, order := range orders([]int{0, 1, 2, 3, 4}) {
		b := bell.New()
		for _, i := range order {
			checkSet(t, b, 7-3*i, i/2, api.OK)
		}
		for _, c := range []struct{ at, who int }{{0, 4}, {0, 7}, {1, -2}, {1, 1}, {2, -5}} {
			checkNext(t, b, c.at)
			checkStrike(t, b, 2, c.who)
		}
		checkNobody(t, b)
	}
}

// orders are all orders of a list.
func orders(list []int) [][]int {
	if len(list) == 0 {
		return [][]int{nil}
	}
	var all [][]int
	for i, first := range list {
		for _, rest := range orders(slices.Delete(slices.Clone(list), i, i+1)) {
			all = append(all, append([]int{first}, rest...))
		}
	}
	return all
}

func TestNext(t *testing.T) {
	b := bell.New()
	for _, c := range []struct{ who, at, want int }{{5, 80, 80}, {6, 90, 80}, {7, 70, 70}, {4, 70, 70}, {7, 75, 70}, {4, 85, 75}, {7, 100, 80}, {5, 0, 0}, {5, api.MaxTime, 85}} {
		checkSet(t, b, c.who, c.at, api.OK)
		for range 5 {
			checkNext(t, b, c.want)
		}
	}
	checkStop(t, b, 4, true)
	checkNext(t, b, 90)
	checkStop(t, b, 7, true)
	checkNext(t, b, 90)
	checkStrike(t, b, 95, 6)
	checkNext(t, b, api.MaxTime)
	checkStrike(t, b, api.MaxTime, 5)
	checkNobody(t, b)
}

// act does one of all calls, drawn.
func (p *pair) act(d *draws, who, at int) {
	p.t.Helper()
	switch d.below(8) {
	case 0, 1, 2:
		p.set(who, at)
	case 3:
		p.stop(who)
	case 4, 5:
		p.strike(at)
	case 6:
		first, _ := p.plain.next()
		p.strike(first - 1 + d.below(3))
	default:
		p.next()
	}
}

// Long runs, of few and of many numbers, at few and at many moments, beyond both ends of them.
func TestDrawnRuns(t *testing.T) {
	d := draws(6)
	for _, people := range []int{1, 2, 3, 10, 100, 700} {
		for _, spread := range []int{1, 2, 10, 1000, api.MaxTime + 1} {
			for range 3 {
				p := newPair(t)
				for range 3000 {
					p.act(&d, d.below(people)-people/2, d.below(spread+2)-1)
				}
				p.ringOut()
			}
		}
	}
}

// Runs in which the bell fills first, by numbers and moments at their ends too.
func TestDrawnRunsOfMany(t *testing.T) {
	d := draws(7)
	for range 10 {
		p := newPair(t)
		for range 400 {
			p.set(int(d.next()), d.below(50))
			p.set(d.oneOf(anyone()), d.oneOf(moments()))
		}
		for range 1000 {
			who := d.oneOf(anyone())
			if len(p.plain) > 0 && d.below(2) == 0 {
				who = p.plain[d.below(len(p.plain))].who
			}
			p.act(&d, who, d.oneOf(numbers()))
		}
		p.ringOut()
	}
}

// Very many ring in the order of their moments, and of one moment in their own.
func TestVeryMany(t *testing.T) {
	b, d := bell.New(), draws(8)
	var all []ring
	for who := range 100000 {
		r := ring{who ^ 0x5555, d.below(5000)}
		checkSet(t, b, r.who, d.below(5000), api.OK)
		checkSet(t, b, r.who, r.at, api.OK)
		all = append(all, r)
	}
	slices.SortFunc(all, func(a, b ring) int { return cmp.Or(cmp.Compare(a.at, b.at), cmp.Compare(a.who, b.who)) })
	for _, r := range all {
		checkNext(t, b, r.at)
		checkSilent(t, b, r.at-1)
		checkStrike(t, b, r.at, r.who)
	}
	checkNobody(t, b)
}

// Bells are apart: what one is told changes no other one.
func TestBellsAreApart(t *testing.T) {
	a, b := bell.New(), bell.New()
	if a == b {
		t.Fatal("New answers the same bell twice")
	}
	checkSet(t, a, 3, 5, api.OK)
	checkNobody(t, b)
	checkStop(t, b, 3, false)
	checkSet(t, b, 3, 7, api.OK)
	checkSet(t, b, 4, 2, api.OK)
	checkNext(t, a, 5)
	checkStop(t, b, 3, true)
	checkStrike(t, a, 5, 3)
	checkNobody(t, a)
	checkStrike(t, b, 5, 4)
	checkNobody(t, b)
	checkNobody(t, bell.New())
}

func TestDrawnRunsSideBySide(t *testing.T) {
	d := draws(9)
	pairs := []*pair{newPair(t), newPair(t), newPair(t)}
	for range 20000 {
		pairs[d.below(3)].act(&d, d.below(40), d.below(30)-2)
	}
	for _, p := range pairs {
		p.ringOut()
	}
}
