package limb_test

import (
	"math"
	"math/big"
	"slices"
	"testing"

	"offertory/api"
	"offertory/limb"
)

type limbs = [api.Limbs]uint64

const (
	last     = api.Limbs - 1
	greatest = 1<<api.LimbBits - 1
	lastMost = 1<<32 - 1
)

// draws are numbers that look drawn; each call has another.
type draws uint64

func (d *draws) next() uint64 {
	*d = *d*6364136223846793005 + 1442695040888963407
	return uint64(*d) ^ uint64(*d)>>29
}

// seed has, beside drawn bytes, many of 0 and of 255.
func (d *draws) seed() (s api.Seed) {
	for i := range s {
		switch n := d.next(); n % 4 {
		case 0:
			s[i] = 0
		case 1:
			s[i] = 255
		default:
			s[i] = byte(n >> 40)
		}
	}
	return s
}

// numbers are such as a seed may have, their ends among them.
func (d *draws) numbers() (l limbs) {
	for i := range l {
		switch n := d.next(); n % 4 {
		case 0:
			l[i] = 0
		case 1:
			l[i] = most(i)
		default:
			l[i] = n >> 7 & most(i)
		}
	}
	return l
}

// most is the greatest that a number may be.
func most(i int) uint64 {
	if i == last {
		return lastMost
	}
	return greatest
}

func allMost() (l limbs) {
	for i := range l {
		l[i] = most(i)
	}
	return l
}

func filled(b byte) (s api.Seed) {
	for i := range s {
		s[i] = b
	}
	return s
}

func counting() (s api.Seed) {
	for i := range s {
		s[i] = byte(i + 1)
	}
	return s
}

// large is the seed as one number without bounds, the lowest byte first.
func large(s api.Seed) *big.Int {
	highFirst := slices.Clone(s[:])
	slices.Reverse(highFirst)
	return new(big.Int).SetBytes(highFirst)
}

// plainCut divides the seed's number by 2^LimbBits, again and again.
func plainCut(t *testing.T, s api.Seed) (l limbs) {
	t.Helper()
	left, part := large(s), new(big.Int)
	unit := new(big.Int).Lsh(big.NewInt(1), api.LimbBits)
	for i := range l {
		left.DivMod(left, unit, part)
		l[i] = part.Uint64()
	}
	if left.Sign() != 0 {
		t.Fatalf("%x has more than %d numbers: %x is left", s, api.Limbs, left)
	}
	return l
}

// plainGlue adds the numbers up by powers of 2^LimbBits, and writes the sum's bytes.
func plainGlue(l limbs) (s api.Seed) {
	sum := new(big.Int)
	for i, n := range l {
		part := new(big.Int).SetUint64(n)
		sum.Add(sum, part.Lsh(part, uint(api.LimbBits*i)))
	}
	sum.FillBytes(s[:])
	slices.Reverse(s[:])
	return s
}

// checkCut holds Cut against numbers without bounds, its numbers against their bounds, and Glue against Cut.
func checkCut(t *testing.T, s api.Seed) limbs {
	t.Helper()
	got := limb.Cut(s)
	if want := plainCut(t, s); got != want {
		t.Errorf("Cut(%x) is %x, not %x", s, got, want)
	}
	for i, n := range got {
		if n > most(i) {
			t.Errorf("Cut(%x) is %x, of which %d is above %x", s, got, i, most(i))
		}
	}
	if back, e := limb.Glue(got); back != s || e != api.OK {
		t.Errorf("Glue(Cut(%x)) is %x, %d", s, back, e)
	}
	return got
}

// checkGlue holds Glue against numbers without bounds, and Cut against Glue.
func checkGlue(t *testing.T, l limbs) api.Seed {
	t.Helper()
	got, e := limb.Glue(l)
	if want := plainGlue(l); got != want || e != api.OK {
		t.Errorf("Glue(%x) is %x, %d, not %x, OK", l, got, e, want)
	}
	if back := limb.Cut(got); back != l {
		t.Errorf("Cut(Glue(%x)) is %x", l, back)
	}
	return got
}

func checkNoGlue(t *testing.T, l limbs) {
	t.Helper()
	if got, e := limb.Glue(l); got != (api.Seed{}) || e != api.ErrRange {
		t.Errorf("Glue(%x) is %x, %d, not a seed of 0 alone, ErrRange", l, got, e)
	}
}

// around are sound numbers, among which one number is put: in its place any fault or any worth must be seen.
func around() []limbs {
	d := draws(1)
	list := []limbs{{}, {1, 1, 1, 1, 1}, allMost(), limb.Cut(counting())}
	for range 20 {
		list = append(list, d.numbers())
	}
	return list
}

func TestCutKnown(t *testing.T) {
	for _, c := range []struct {
		seed api.Seed
		want limbs
	}{
		{api.Seed{}, limbs{}},
		{filled(255), limbs{greatest, greatest, greatest, greatest, lastMost}},
		{filled(128), limbs{0x80808080808080, 0x80808080808080, 0x80808080808080, 0x80808080808080, 0x80808080}},
		{counting(), limbs{0x07060504030201, 0x0e0d0c0b0a0908, 0x1514131211100f, 0x1c1b1a19181716, 0x201f1e1d}},
		{api.Seed{0: 1}, limbs{0: 1}},
		{api.Seed{1: 1}, limbs{0: 256}},
		{api.Seed{6: 255}, limbs{0: 255 << 48}},
		{api.Seed{7: 255}, limbs{1: 255}},
		{api.Seed{13: 1}, limbs{1: 1 << 48}},
		{api.Seed{14: 1}, limbs{2: 1}},
		{api.Seed{20: 128}, limbs{2: 1 << 55}},
		{api.Seed{21: 128}, limbs{3: 128}},
		{api.Seed{27: 255}, limbs{3: 255 << 48}},
		{api.Seed{28: 255}, limbs{4: 255}},
		{api.Seed{31: 128}, limbs{4: 1 << 31}},
		{api.Seed{6: 9, 7: 8, 13: 7, 14: 6, 20: 5, 21: 4, 27: 3, 28: 2}, limbs{9 << 48, 8 | 7<<48, 6 | 5<<48, 4 | 3<<48, 2}},
	} {
		if got := checkCut(t, c.seed); got != c.want {
			t.Errorf("Cut(%x) is %x, not %x", c.seed, got, c.want)
		}
		if got := checkGlue(t, c.want); got != c.seed {
			t.Errorf("Glue(%x) is %x, not %x", c.want, got, c.seed)
		}
	}
}

// Seven bytes a number, the lowest first: a byte that is set alone is in one number alone.
func TestCutEachByteAlone(t *testing.T) {
	for i := range len(api.Seed{}) {
		for _, b := range []byte{1, 128, 255} {
			var s api.Seed
			var want limbs
			s[i] = b
			want[i/7] = uint64(b) << (8 * (i % 7))
			if got := checkCut(t, s); got != want {
				t.Errorf("Cut of %d alone at %d is %x, not %x", b, i, got, want)
			}
			rest := filled(255)
			rest[i] = 255 - b
			want = allMost()
			want[i/7] -= uint64(b) << (8 * (i % 7))
			if got := checkCut(t, rest); got != want {
				t.Errorf("Cut of 255 but for %d at %d is %x, not %x", rest[i], i, got, want)
			}
		}
	}
}

func TestCutEachBitAlone(t *testing.T) {
	for i := range 8 * len(api.Seed{}) {
		var s api.Seed
		var want limbs
		s[i/8] = 1 << (i % 8)
		want[i/api.LimbBits] = 1 << (i % api.LimbBits)
		if got := checkCut(t, s); got != want {
			t.Errorf("Cut of the bit %d alone is %x, not %x", i, got, want)
		}
	}
}

func TestCutMany(t *testing.T) {
	d := draws(2)
	for range 5000 {
		checkCut(t, d.seed())
	}
}

// The lowest byte comes first: the seed's bytes from its end on are other numbers.
func TestCutLowestFirst(t *testing.T) {
	s := counting()
	slices.Reverse(s[:])
	want := limbs{0x1a1b1c1d1e1f20, 0x13141516171819, 0x0c0d0e0f101112, 0x05060708090a0b, 0x01020304}
	if got := checkCut(t, s); got != want {
		t.Errorf("Cut(%x) is %x, not %x", s, got, want)
	}
}

func TestGlueZeros(t *testing.T) {
	if got := checkGlue(t, limbs{}); got != (api.Seed{}) {
		t.Errorf("Glue of 0 alone is %x", got)
	}
}

// Each number may be its greatest, alone and among any others.
func TestGlueGreatest(t *testing.T) {
	if got := checkGlue(t, allMost()); got != filled(255) {
		t.Errorf("Glue(%x) is %x", allMost(), got)
	}
	for i := range api.Limbs {
		for _, n := range []uint64{0, 1, 255, 256, 1 << 31, lastMost - 1, lastMost, lastMost + 1, 1 << 55, greatest - 1, greatest} {
			for _, l := range around() {
				if n <= most(i) {
					l[i] = n
					checkGlue(t, l)
				}
			}
		}
	}
}

func TestGlueMany(t *testing.T) {
	d := draws(3)
	for range 5000 {
		checkGlue(t, d.numbers())
	}
}

// tooGreat are numbers that the one at i may not be: each bit above the greatest stands alone in one of them.
func tooGreat(i int) []uint64 {
	list := []uint64{most(i) + 1, most(i) + 2, 2*most(i) + 1, greatest + 1, api.P - 1, api.P, api.P + 1, 1 << 63, math.MaxInt64, math.MaxUint64 - most(i), math.MaxUint64 - 1, math.MaxUint64}
	if i == last {
		list = append(list, greatest-1, greatest, 1<<55)
	}
	for n := most(i) + 1; n != 0; n <<= 1 {
		list = append(list, n, n|1, n|most(i))
	}
	return list
}

func TestGlueOneTooGreat(t *testing.T) {
	for i := range api.Limbs {
		for _, n := range tooGreat(i) {
			for _, l := range around() {
				l[i] = n
				checkNoGlue(t, l)
			}
		}
	}
}

func TestGlueTwoTooGreat(t *testing.T) {
	for i := range api.Limbs {
		for k := range i {
			for _, n := range tooGreat(i) {
				for _, m := range []uint64{most(k) + 1, api.P - 1, api.P, 1 << 63, math.MaxUint64} {
					l := limbs{1, 2, 3, 4, 5}
					l[i], l[k] = n, m
					checkNoGlue(t, l)
				}
			}
		}
	}
}

func TestGlueAllTooGreat(t *testing.T) {
	for _, n := range []uint64{greatest + 1, api.P - 1, api.P, 1 << 63, math.MaxUint64} {
		checkNoGlue(t, limbs{n, n, n, n, n})
	}
	checkNoGlue(t, limbs{greatest, greatest, greatest, greatest, greatest})
	checkNoGlue(t, limbs{greatest + 1, greatest + 1, greatest + 1, greatest + 1, lastMost + 1})
}

// Any numbers at all: either no seed has them, or they come back.
func TestGlueAnyNumbers(t *testing.T) {
	d := draws(4)
	for range 5000 {
		l, sound := limbs{}, true
		for i := range l {
			l[i] = d.next() >> (d.next() % 48)
			if d.next()%8 != 0 {
				l[i] &= most(i)
			}
			sound = sound && l[i] <= most(i)
		}
		if sound {
			checkGlue(t, l)
		} else {
			checkNoGlue(t, l)
		}
	}
}

func TestUnlikeSeeds(t *testing.T) {
	d := draws(5)
	owner := map[limbs]api.Seed{}
	put := func(s api.Seed) {
		l := limb.Cut(s)
		if other, there := owner[l]; there && other != s {
			t.Errorf("Cut(%x) and Cut(%x) are both %x", s, other, l)
		}
		owner[l] = s
	}
	for _, s := range []api.Seed{{}, filled(255), counting(), d.seed()} {
		put(s)
		for i := range s {
			for b := range 255 {
				other := s
				other[i] ^= byte(b + 1)
				put(other)
			}
		}
	}
	for range 2000 {
		put(d.seed())
	}
}

func TestUnlikeNumbers(t *testing.T) {
	owner := map[api.Seed]limbs{}
	for _, l := range around() {
		for i := range 8 * len(api.Seed{}) {
			other := l
			other[i/api.LimbBits] ^= 1 << (i % api.LimbBits)
			s := checkGlue(t, other)
			if was, there := owner[s]; there && was != other {
				t.Errorf("Glue(%x) and Glue(%x) are both %x", other, was, s)
			}
			owner[s] = other
		}
	}
}

// Nothing is kept: neither what another call was given nor that it was refused changes an answer.
func TestNothingIsKept(t *testing.T) {
	want, _ := limb.Glue(limb.Cut(counting()))
	limb.Cut(filled(255))
	checkGlue(t, allMost())
	checkNoGlue(t, limbs{last: math.MaxUint64})
	checkNoGlue(t, limbs{0: math.MaxUint64})
	if got := checkCut(t, api.Seed{}); got != (limbs{}) {
		t.Errorf("Cut of 0 alone behind other calls is %x", got)
	}
	if got, e := limb.Glue(limb.Cut(counting())); got != want || e != api.OK {
		t.Errorf("Glue(Cut(%x)) behind other calls is %x, %d", counting(), got, e)
	}
}
