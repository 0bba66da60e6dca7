package mask_test

import (
	"encoding/binary"
	"math"
	"math/big"
	"slices"
	"testing"

	"offertory/api"
	"offertory/cipher"
	"offertory/mask"
)

const (
	donors  = 64
	longest = 256
	half    = (api.P - 1) / 2 // the secret whose public number is P - 1, which nobody takes
)

// draws are numbers that look drawn; each call has another.
type draws uint64

func (d *draws) next() uint64 {
	*d = *d*6364136223846793005 + 1442695040888963407
	return uint64(*d) ^ uint64(*d)>>29
}

func (d *draws) donor() int { return int(d.next()%donors) + 1 }

func (d *draws) secret() uint64 { return d.next()%(api.P-2) + 1 }

func (d *draws) public() uint64 { return d.next()%(api.P-3) + 2 }

func (d *draws) seed() api.Seed {
	var s api.Seed
	for i := range s {
		s[i] = byte(d.next() >> 40)
	}
	return s
}

func (d *draws) vector(n int) []uint32 {
	var v []uint32
	for range n {
		v = append(v, uint32(d.next()>>20))
	}
	return v
}

func oneOf[T any](d *draws, list []T) T { return list[d.next()%uint64(len(list))] }

// raised is a power that is worked out without packages prime and group.
func raised(base, n uint64) uint64 {
	large := func(n uint64) *big.Int { return new(big.Int).SetUint64(n) }
	return new(big.Int).Exp(large(base), large(n), large(api.P)).Uint64()
}

func public(secret uint64) uint64 { return raised(api.Gen, secret) }

// streamed is the first n bytes of a seed's stream, without package stream.
func streamed(seed api.Seed, tag uint32, n int) []byte {
	var nonce [12]byte
	binary.LittleEndian.PutUint32(nonce[:], tag)
	var b []byte
	for counter := uint32(0); len(b) < n; counter++ {
		block := cipher.Block(seed, counter, nonce)
		b = append(b, block[:]...)
	}
	return b[:n]
}

func numbers(seed api.Seed, tag uint32, n int) []uint32 {
	n = max(0, min(n, longest))
	b := streamed(seed, tag, 4*n)
	v := make([]uint32, n)
	for i := range v {
		v[i] = binary.LittleEndian.Uint32(b[4*i:])
	}
	return v
}

// plainOwn and plainPair are the plain ways of a mask.
func plainOwn(seed api.Seed, n int) []uint32 { return numbers(seed, 4, n) }

func plainPair(secret, public uint64, n int) []uint32 {
	var agreed, seed api.Seed
	binary.LittleEndian.PutUint64(agreed[:], raised(public, secret))
	copy(seed[:], streamed(agreed, 2, len(seed)))
	return numbers(seed, 3, n)
}

// total adds up whole numbers, which goes round at the end alone.
type total []int64

func (s total) with(sign int64, v []uint32) total {
	for i, n := range v {
		s[i] += sign * int64(n)
	}
	return s
}

func (s total) vector() []uint32 {
	var v []uint32
	for _, n := range s {
		v = append(v, uint32(n))
	}
	return v
}

// call is what Hide and Left are both given.
type call struct {
	who    int
	secret uint64
	others []api.Card
}

// plainPairs is the masks of two, those of others above with one sign, and of those below with the other one.
func (c call) plainPairs(s total, above int64) total {
	for _, other := range c.others {
		if other.Who > c.who {
			s.with(above, plainPair(c.secret, other.Key, len(s)))
		}
		if other.Who < c.who {
			s.with(-above, plainPair(c.secret, other.Key, len(s)))
		}
	}
	return s
}

func (c call) plainHide(x []uint32, own api.Seed) []uint32 {
	s := make(total, len(x)).with(1, x).with(1, plainOwn(own, len(x)))
	return c.plainPairs(s, 1).vector()
}

func (c call) plainLeft(n int) []uint32 { return c.plainPairs(make(total, n), -1).vector() }

func (c call) hide(x []uint32, own api.Seed) ([]uint32, api.Errno) {
	return mask.Hide(x, c.who, own, c.secret, c.others)
}

func (c call) left(n int) ([]uint32, api.Errno) { return mask.Left(c.who, c.secret, c.others, n) }

// checkHide holds Hide against the plain way, or against an error, beside which there is nothing.
func (c call) checkHide(t *testing.T, x []uint32, own api.Seed, wantError api.Errno) {
	t.Helper()
	var want []uint32
	if wantError == api.OK {
		want = c.plainHide(x, own)
	}
	if got, e := c.hide(x, own); !slices.Equal(got, want) || e != wantError {
		t.Errorf("Hide(%d numbers, %d, .., %d, %v) is %x, %d, not %x, %d", len(x), c.who, c.secret, c.others, got, e, want, wantError)
	}
}

func (c call) checkLeft(t *testing.T, n int, wantError api.Errno) {
	t.Helper()
	var want []uint32
	if wantError == api.OK {
		want = c.plainLeft(n)
	}
	if got, e := c.left(n); !slices.Equal(got, want) || e != wantError {
		t.Errorf("Left(%d, %d, %v, %d) is %x, %d, not %x, %d", c.who, c.secret, c.others, n, got, e, want, wantError)
	}
}

// check holds both against the plain way, with no numbers, some, and as many as there may be.
func (c call) check(t *testing.T, wantError api.Errno) {
	t.Helper()
	d := draws(20)
	for _, n := range []int{0, 1, 17, longest} {
		c.checkHide(t, d.vector(n), d.seed(), wantError)
		c.checkLeft(t, n, wantError)
	}
}

// secretOf is each donor's secret number, and cards are of some of them. Their Locks, which no mask is made of, are no good.
func secretOf(who int) uint64 {
	d := draws(1000 + who)
	return d.secret()
}

func card(who int) api.Card {
	return api.Card{Who: who, Lock: uint64(who % 2), Key: public(secretOf(who))}
}

func cards(who ...int) []api.Card {
	var list []api.Card
	for _, n := range who {
		list = append(list, card(n))
	}
	return list
}

func from(first, last int) []int {
	var list []int
	for n := first; n <= last; n++ {
		list = append(list, n)
	}
	return list
}

func of(who int, others ...int) call {
	return call{who: who, secret: secretOf(who), others: cards(others...)}
}

// secrets are allowed ones: the ends, what stands beside the middle, and some in between.
func secrets() []uint64 {
	d := draws(1)
	list := []uint64{1, 2, 3, 61, 77, 1 << 32, 1 << 60, half - 1, half, half + 1, api.P - 3, api.P - 2}
	for range 8 {
		list = append(list, d.secret())
	}
	return list
}

func publics() []uint64 {
	d := draws(2)
	list := []uint64{2, 3, 37, 1 << 32, 1 << 60, half, api.P - 3, api.P - 2}
	for range 8 {
		list = append(list, d.public())
	}
	return list
}

// beyond are numbers above P - 1; what some of them are modulo P would be fine.
func beyond() []uint64 {
	return []uint64{api.P, api.P + 1, api.P + 2, 2*api.P - 2, 2 * api.P, 2*api.P + 5, 1 << 61, 1 << 62, 1 << 63, math.MaxUint64 - 1, math.MaxUint64}
}

func badSecrets() []uint64 { return append([]uint64{0, api.P - 1}, beyond()...) }

func badPublics() []uint64 { return append([]uint64{0, 1, api.P - 1}, beyond()...) }

// noDonors are numbers that no donor has: of some, the lowest bits would be fine.
func noDonors() []int {
	return []int{
		math.MinInt, math.MinInt + 1, math.MinInt + 3, math.MinInt32, -256, -65, -64, -2, -1, 0,
		donors + 1, donors + 2, 128, 255, 256, 257, 1<<16 + 1, math.MaxInt32, math.MaxUint32, 1<<32 + 1, 1<<56 + 3, math.MaxInt - 1, math.MaxInt,
	}
}

func seeds() []api.Seed {
	d := draws(3)
	list := []api.Seed{{}, {1}, {31: 1}, {31: 128}}
	var rising, full api.Seed
	for i := range rising {
		rising[i], full[i] = byte(i), 255
	}
	return append(list, rising, full, d.seed(), d.seed())
}

// counts are all that a mask may have, and some that are no counts: below 0 there are none, and above MaxLen as many as MaxLen.
func counts() []int {
	return append(from(-2, longest+2), math.MinInt, math.MinInt+1, math.MinInt32, -65, 511, 512, 16384, 16385, 1<<30, 1<<32+3, 1<<62, 1<<62+1, math.MaxInt-1, math.MaxInt)
}

func checkVector(t *testing.T, name string, got, want []uint32) {
	t.Helper()
	if !slices.Equal(got, want) {
		t.Errorf("%s is %x, not %x", name, got, want)
	}
}

func pairOf(t *testing.T, secret, public uint64, n int) []uint32 {
	t.Helper()
	v, e := mask.Pair(secret, public, n)
	if e != api.OK {
		t.Errorf("Pair(%d, %d, %d) has %d", secret, public, n, e)
	}
	return v
}

// Masks that another program made, by its own ChaCha20 and its own powers.
func TestKnownMasks(t *testing.T) {
	var rising api.Seed
	for i := range rising {
		rising[i] = byte(i)
	}
	checkVector(t, "Own of nothing", mask.Own(api.Seed{}, 4), []uint32{0x60c97a51, 0xdf7ccb88, 0x03ac1e0f, 0x160a35bc})
	checkVector(t, "Own", mask.Own(rising, 3), []uint32{0x92f2f876, 0x1ae3466b, 0xd9f68996})
	checkVector(t, "Own from 14 on", mask.Own(rising, 18)[14:], []uint32{0xd2a010a7, 0x7f434440, 0x1f42304f, 0x02061546})
	checkVector(t, "Own's end", mask.Own(rising, longest)[254:], []uint32{0x4e0952d7, 0x40e9cc7e})
	for _, c := range []struct {
		secret, public uint64
		first, last    []uint32
	}{
		{77, 713382385997058412, []uint32{0x01abf571, 0xdb5c5118, 0x201257eb}, []uint32{0x772214d5, 0x5044f272}},
		{1, 2, []uint32{0x49bf8e74, 0xdc23dfaa, 0x94520718}, []uint32{0x1d7e7a8c, 0x6d1c1390}},
		{api.P - 2, api.P - 2, []uint32{0x8c28d5e2, 0x9f8714d5, 0x93379ce8}, []uint32{0x45e8f6cc, 0xb82522c4}},
		{123456789, 1436856447031400654, []uint32{0xa03f6864, 0xcd4d03bb, 0xb0ae41c4}, []uint32{0xff3cda4d, 0xf528c0c2}},
	} {
		checkVector(t, "Pair", pairOf(t, c.secret, c.public, 3), c.first)
		checkVector(t, "Pair's end", pairOf(t, c.secret, c.public, longest)[254:], c.last)
	}
}

// Vectors that it hid, and what was left, of four donors.
func TestKnownVectors(t *testing.T) {
	others := []api.Card{{Who: 1, Key: 177917621779460413}, {Who: 5, Key: 1180598568401477079}, {Who: 6, Key: 1527663442908431533}, {Who: 64, Key: 343669009240241919}}
	x := []uint32{0, 1, 1 << 31, math.MaxUint32}
	for _, c := range []struct {
		who          int
		secret       uint64
		hidden, left []uint32
	}{
		{1, 11, []uint32{0xbb2e2f21, 0x74a6ba60, 0xb92c47a3, 0x9d1ecd04}, []uint32{0x2df55a5d, 0x1af90d5d, 0x74274ddf, 0x936147ff}},
		{5, 55, []uint32{0x71cec7a9, 0xa98ff917, 0x51b9aca9, 0xab94a59b}, []uint32{0x0492dd54, 0x640d8430, 0x5836b8aa, 0x59b8834a}},
		{6, 66, []uint32{0xb1aeee2c, 0x2af335a8, 0x82f4a3ce, 0x397cd555}, []uint32{0x70113598, 0xb11fb018, 0xa19aa622, 0x3fe7e537}},
		{64, 6464, []uint32{0xd7b51ec1, 0xe6fe6cf6, 0x5fbc647d, 0x28c0e5ae}, []uint32{0x5d6692b7, 0xcfd9be5b, 0x92075355, 0xd2fe4f80}},
	} {
		var own api.Seed
		for i := range own {
			own[i] = byte(c.who)
		}
		with := call{who: c.who, secret: c.secret, others: others}
		hidden, e := with.hide(x, own)
		left, also := with.left(len(x))
		if e != api.OK || also != api.OK {
			t.Errorf("%d: Hide has %d, and Left %d", c.who, e, also)
		}
		checkVector(t, "Hide", hidden, c.hidden)
		checkVector(t, "Left", left, c.left)
	}
}

func TestOwn(t *testing.T) {
	for _, s := range seeds() {
		for _, n := range counts() {
			checkVector(t, "Own", mask.Own(s, n), plainOwn(s, n))
		}
	}
}

func TestPair(t *testing.T) {
	d := draws(4)
	for _, s := range secrets() {
		for _, p := range publics() {
			for _, n := range []int{0, 1, 16, 17, int(d.next() % longest), longest} {
				checkVector(t, "Pair", pairOf(t, s, p, n), plainPair(s, p, n))
			}
		}
	}
	for _, n := range counts() {
		checkVector(t, "Pair", pairOf(t, 77, 5, n), plainPair(77, 5, n))
	}
}

// How many numbers each count is, told without the plain way.
func TestHowMany(t *testing.T) {
	for _, c := range []struct{ n, want int }{
		{math.MinInt, 0}, {-1, 0}, {0, 0}, {1, 1}, {2, 2}, {longest - 1, longest - 1}, {longest, longest}, {longest + 1, longest}, {math.MaxInt, longest},
	} {
		if own, pair := len(mask.Own(api.Seed{5}, c.n)), len(pairOf(t, 77, 5, c.n)); own != c.want || pair != c.want {
			t.Errorf("for %d there are %d numbers of one's own, and %d of two, not %d", c.n, own, pair, c.want)
		}
	}
}

// The group's own error: the secret's, if both are refused; whatever the count is.
func TestPairErrors(t *testing.T) {
	check := func(s, p uint64, want api.Errno) {
		t.Helper()
		for _, n := range []int{math.MinInt, -1, 0, 1, longest, longest + 1, math.MaxInt} {
			if v, e := mask.Pair(s, p, n); len(v) > 0 || e != want {
				t.Errorf("Pair(%d, %d, %d) is %x, %d, not %d", s, p, n, v, e, want)
			}
		}
	}
	for _, s := range badSecrets() {
		for _, p := range append(publics(), badPublics()...) {
			check(s, p, api.ErrArg)
		}
	}
	for _, s := range secrets() {
		for _, p := range badPublics() {
			check(s, p, api.ErrKey)
		}
	}
}

func TestPairOtherWayRound(t *testing.T) {
	for _, a := range secrets() {
		for _, b := range secrets() {
			if a == half || b == half {
				continue // its public number is no good one
			}
			for _, n := range []int{1, 9, longest} {
				checkVector(t, "Pair of the other one", pairOf(t, b, public(a), n), pairOf(t, a, public(b), n))
			}
		}
	}
}

func TestShorterIsBeginning(t *testing.T) {
	own, pair := mask.Own(api.Seed{7}, longest), pairOf(t, 77, 5, longest)
	for n := range longest + 1 {
		checkVector(t, "the shorter Own", mask.Own(api.Seed{7}, n), own[:n])
		checkVector(t, "the shorter Pair", pairOf(t, 77, 5, n), pair[:n])
	}
}

// Each pair of donors has a mask that no other pair has, and each donor one of its own.
func TestMasksAreApart(t *testing.T) {
	seen := map[[2]uint32]bool{}
	see := func(v []uint32) {
		for i := 0; i+1 < len(v); i += 2 {
			if seen[[2]uint32{v[i], v[i+1]}] {
				t.Errorf("%x, %x stand twice", v[i], v[i+1])
			}
			seen[[2]uint32{v[i], v[i+1]}] = true
		}
	}
	for a := 1; a <= 20; a++ {
		d := draws(a)
		see(mask.Own(d.seed(), 16))
		for b := a + 1; b <= 20; b++ {
			see(pairOf(t, secretOf(a), public(secretOf(b)), 16))
		}
	}
}

// crowds are donors, each with others: none, one below or above, itself alone, first, in the middle and last among others, and as many as there may be.
func crowds() []call {
	list := []call{
		of(1), of(33), of(64),
		of(2, 1), of(64, 1), of(64, 63), of(1, 2), of(1, 64), of(63, 64), of(33, 32), of(33, 34),
		of(1, 1), of(33, 33), of(64, 64),
		of(1, 1, 2, 3), of(5, 5, 6, 64), of(2, 1, 2, 3), of(33, 1, 2, 33, 63, 64), of(3, 1, 2, 3), of(64, 62, 63, 64),
		of(5, 1, 2, 9), of(1, 2, 3, 4), of(64, 1, 2, 3), of(8, 4, 5, 6, 7, 9, 10, 11), of(8, 4, 5, 6, 7, 8, 9, 10, 11),
	}
	for _, who := range []int{1, 2, 32, 63, 64} {
		list = append(list, of(who, from(1, donors)...))
		list = append(list, of(who, slices.DeleteFunc(from(1, donors), func(n int) bool { return n == who })...))
	}
	return append(list, of(1, from(2, donors)...), of(64, from(1, donors-1)...))
}

func TestCrowds(t *testing.T) {
	for _, c := range crowds() {
		c.check(t, api.OK)
	}
	for _, none := range [][]api.Card{nil, {}, make([]api.Card, 0, 9), cards(1, 2)[:0]} {
		call{who: 5, secret: 77, others: none}.check(t, api.OK)
	}
}

// All pairs of a donor and another one, and both signs told by Pair itself.
func TestAboveAndBelow(t *testing.T) {
	for who := 1; who <= donors; who++ {
		for other := 1; other <= donors; other++ {
			var hidden, left int64 = 0, 0
			if other > who {
				hidden, left = 1, -1
			}
			if other < who {
				hidden, left = -1, 1
			}
			c, x := of(who, other), []uint32{3, math.MaxUint32, 0}
			pair := pairOf(t, secretOf(who), public(secretOf(other)), 3)
			got, _ := c.hide(x, api.Seed{9})
			checkVector(t, "Hide", got, make(total, 3).with(1, x).with(1, plainOwn(api.Seed{9}, 3)).with(hidden, pair).vector())
			got, _ = c.left(3)
			checkVector(t, "Left", got, make(total, 3).with(left, pair).vector())
		}
	}
}

// Where there are no others, the own mask alone lies over the vector.
func TestNoOthers(t *testing.T) {
	for _, s := range append(secrets(), badSecrets()...) {
		for _, others := range [][]api.Card{nil, {}, {{Who: 5}}, {{Who: 5, Key: 1}}, cards(5)} {
			c := call{who: 5, secret: s, others: others}
			c.check(t, api.OK)
			got, _ := c.left(3)
			checkVector(t, "Left of none", got, []uint32{0, 0, 0})
			got, _ = c.hide([]uint32{0, 0, 0}, api.Seed{9})
			checkVector(t, "Hide of nothing", got, mask.Own(api.Seed{9}, 3))
		}
	}
}

func TestSecretsAndKeys(t *testing.T) {
	for _, s := range secrets() {
		for i, p := range publics() {
			others := []api.Card{{Who: 1, Key: p}, {Who: 9, Key: publics()[(i+1)%len(publics())]}, {Who: 64, Key: p}}
			for _, who := range []int{1, 5, 33, 64} {
				c := call{who: who, secret: s, others: others}
				c.checkHide(t, []uint32{1, 2, 3}, api.Seed{1}, api.OK)
				c.checkLeft(t, 3, api.OK)
			}
		}
	}
}

func TestLengths(t *testing.T) {
	d := draws(5)
	c := of(33, 1, 2, 33, 64)
	for n := range longest + 1 {
		c.checkHide(t, d.vector(n), d.seed(), api.OK)
		c.checkLeft(t, n, api.OK)
	}
	for _, x := range [][]uint32{nil, {}, make([]uint32, 0, 9), make([]uint32, 300)[:0], make([]uint32, 300)[:longest]} {
		c.checkHide(t, x, api.Seed{}, api.OK)
	}
	for _, n := range []int{longest + 1, longest + 2, 511, 512, 1024, 1<<16 + 1} {
		for _, c := range crowds() {
			c.checkHide(t, make([]uint32, n), api.Seed{}, api.ErrArg)
		}
	}
	for _, n := range []int{math.MinInt, math.MinInt + 1, math.MinInt32, -256, -2, -1, longest + 1, longest + 2, 511, 512, 1 << 16, 1 << 32, 1<<32 + 1, 1 << 62, math.MaxInt - 1, math.MaxInt} {
		for _, c := range crowds() {
			c.checkLeft(t, n, api.ErrArg)
		}
	}
}

// Numbers at their bounds, and such as come to a bound, or go round by one, under their masks.
func TestBounds(t *testing.T) {
	bounds := []uint32{0, 1, 2, 1<<31 - 1, 1 << 31, 1<<31 + 1, math.MaxUint32 - 1, math.MaxUint32}
	for _, c := range crowds() {
		x := make([]uint32, len(bounds))
		for i, n := range c.plainHide(x, api.Seed{3}) {
			x[i] = bounds[i] - n
		}
		got, e := c.hide(x, api.Seed{3})
		if e != api.OK {
			t.Errorf("Hide has %d", e)
		}
		checkVector(t, "Hide", got, bounds)
		c.checkHide(t, bounds, api.Seed{3}, api.OK)
		for _, n := range bounds {
			c.checkHide(t, slices.Repeat([]uint32{n}, longest), api.Seed{4}, api.OK)
		}
	}
}

func TestWho(t *testing.T) {
	for _, who := range noDonors() {
		for _, others := range [][]api.Card{nil, cards(1), cards(1, 2, 64), cards(from(1, donors)...), {{Who: 1}}} {
			for _, s := range []uint64{0, 77, api.P} {
				call{who: who, secret: s, others: others}.check(t, api.ErrArg)
			}
		}
		call{who: who, secret: 77, others: []api.Card{{Who: who, Key: 5}}}.check(t, api.ErrArg)
	}
	for who := 1; who <= donors; who++ {
		of(who, 1, 32, 64).checkHide(t, []uint32{1, 2}, api.Seed{}, api.OK)
		of(who, 1, 32, 64).checkLeft(t, 2, api.OK)
	}
}

// The Who of others: one twice, or falling, at each place, also where it is who itself; the first or the last one beyond.
func TestOthersRise(t *testing.T) {
	lists := [][]int{
		{1, 1}, {2, 1}, {64, 64}, {64, 1}, {64, 63}, {5, 5}, {5, 5, 6}, {4, 5, 5}, {4, 4, 5}, {6, 5, 4}, {1, 3, 2}, {2, 1, 3}, {5, 6, 5}, {5, 1, 5},
		{1, 2, 3, 3}, {1, 2, 2, 3}, {1, 1, 2, 3}, {1, 2, 4, 3}, {2, 1, 3, 4}, {1, 2, 3, 1}, append(from(1, donors), donors), append([]int{1}, from(1, donors)...),
	}
	for _, beyond := range noDonors() {
		lists = append(lists, []int{beyond}, []int{beyond, 1, 2}, []int{1, 2, beyond}, []int{1, beyond, 64}, []int{beyond, 5}, []int{5, beyond}, append(from(1, donors), beyond), append([]int{beyond}, from(1, donors)...))
	}
	for _, list := range lists {
		for _, who := range []int{1, 5, 64} {
			of(who, list...).check(t, api.ErrArg)
		}
	}
}

// A refused secret is told of at any other one, and not of who itself.
func TestRefusedSecret(t *testing.T) {
	for _, s := range badSecrets() {
		for _, others := range [][]api.Card{cards(1), cards(1, 2), cards(1, 5), cards(5, 6), cards(1, 2, 5, 64), cards(from(1, donors)...)} {
			call{who: 5, secret: s, others: others}.check(t, api.ErrArg)
		}
		call{who: 5, secret: s, others: []api.Card{{Who: 4, Key: 1}, card(6)}}.check(t, api.ErrArg)
		call{who: 5, secret: s, others: []api.Card{card(4), {Who: 6, Key: 1}}}.check(t, api.ErrArg)
	}
}

// A refused Key at each place: with it goes the whole, but at who's own place.
func TestRefusedKeys(t *testing.T) {
	who := []int{1, 2, 5, 33, 64}
	for _, bad := range badPublics() {
		for _, self := range []int{1, 5, 64, 40} {
			for at, n := range who {
				c := of(self, who...)
				c.others[at].Key = bad
				want := api.ErrKey
				if n == self {
					want = api.OK
				}
				c.check(t, want)
			}
		}
	}
}

// Two refused Keys, of which who's own does not count.
func TestTwoRefusedKeys(t *testing.T) {
	who := []int{1, 2, 5, 33, 64}
	d := draws(6)
	for a := range who {
		for b := range a {
			for _, self := range []int{1, 5, 64, 40} {
				c := of(self, who...)
				c.others[a].Key, c.others[b].Key = oneOf(&d, badPublics()), oneOf(&d, badPublics())
				c.check(t, api.ErrKey)
			}
		}
	}
	for _, self := range []int{1, 2, 64} {
		c := of(self, who...)
		for i := range c.others {
			c.others[i].Key = 0
		}
		c.check(t, api.ErrKey)
	}
}

// What stands in who's own Card has no part in anything.
func TestOwnPlace(t *testing.T) {
	for _, self := range []int{1, 5, 64} {
		plain := of(self, 1, 5, 64)
		want, _ := plain.hide([]uint32{1, 2, 3}, api.Seed{1})
		wantLeft, _ := plain.left(3)
		for _, key := range append(publics(), badPublics()...) {
			c := of(self, 1, 5, 64)
			c.others[slices.IndexFunc(c.others, func(o api.Card) bool { return o.Who == self })].Key = key
			got, e := c.hide([]uint32{1, 2, 3}, api.Seed{1})
			gotLeft, also := c.left(3)
			if e != api.OK || also != api.OK {
				t.Errorf("Hide has %d, and Left %d", e, also)
			}
			checkVector(t, "Hide", got, want)
			checkVector(t, "Left", gotLeft, wantLeft)
		}
		c := of(self, slices.DeleteFunc([]int{1, 5, 64}, func(n int) bool { return n == self })...)
		got, _ := c.hide([]uint32{1, 2, 3}, api.Seed{1})
		checkVector(t, "Hide without it", got, want)
		gotLeft, _ := c.left(3)
		checkVector(t, "Left without it", gotLeft, wantLeft)
	}
}

// The Lock of a Card has no part in it either.
func TestLocks(t *testing.T) {
	want, _ := of(5, 1, 5, 64).hide([]uint32{1, 2}, api.Seed{1})
	wantLeft, _ := of(5, 1, 5, 64).left(2)
	for _, lock := range append(publics(), badPublics()...) {
		c := of(5, 1, 5, 64)
		for i := range c.others {
			c.others[i].Lock = lock
		}
		got, _ := c.hide([]uint32{1, 2}, api.Seed{1})
		checkVector(t, "Hide", got, want)
		got, _ = c.left(2)
		checkVector(t, "Left", got, wantLeft)
	}
}

// fault is one thing that is wrong of a call of so many numbers, and what is told of it.
type fault struct {
	e    api.Errno
	make func(d *draws, c *call, n *int)
}

// faults are in the chapter's order; they are made of a call of five others, of whom who is the third.
func faults(wrongCounts []int) []fault {
	return []fault{
		{api.ErrArg, func(d *draws, c *call, n *int) { c.who = oneOf(d, noDonors()) }},
		{api.ErrArg, func(d *draws, c *call, n *int) { *n = oneOf(d, wrongCounts) }},
		{api.ErrArg, func(d *draws, c *call, n *int) {
			at := d.next() % uint64(len(c.others))
			c.others[at].Who = oneOf(d, noDonors())
		}},
		{api.ErrArg, func(d *draws, c *call, n *int) { c.others = append(c.others, c.others[len(c.others)-1]) }},
		{api.ErrArg, func(d *draws, c *call, n *int) { c.secret = oneOf(d, badSecrets()) }},
		{api.ErrKey, func(d *draws, c *call, n *int) { c.others[0].Key = oneOf(d, badPublics()) }},
		{api.ErrKey, func(d *draws, c *call, n *int) { c.others[len(c.others)-1].Key = oneOf(d, badPublics()) }},
	}
}

// checkFaults goes through all ways to have some of the faults: the first one is told.
func checkFaults(t *testing.T, wrongCounts []int, check func(c call, n int, want api.Errno)) {
	t.Helper()
	d := draws(7)
	list := faults(wrongCounts)
	for set := 1; set < 1<<len(list); set++ {
		for range 10 {
			c, n := of(5, 1, 2, 5, 33, 64), int(d.next()%longest)
			want := api.OK
			for i, f := range list {
				if set>>i&1 == 1 {
					f.make(&d, &c, &n)
					if want == api.OK {
						want = f.e
					}
				}
			}
			check(c, n, want)
		}
	}
}

func TestWhichErrorOfHide(t *testing.T) {
	checkFaults(t, []int{longest + 1, longest + 2, 300, 5000}, func(c call, n int, want api.Errno) {
		c.checkHide(t, make([]uint32, n), api.Seed{1}, want)
	})
}

func TestWhichErrorOfLeft(t *testing.T) {
	checkFaults(t, []int{math.MinInt, -1, longest + 1, 5000, math.MaxInt}, func(c call, n int, want api.Errno) {
		c.checkLeft(t, n, want)
	})
}

// gift is a donor's vector and its own seed.
type gift struct {
	who int
	x   []uint32
	own api.Seed
}

func gifts(d *draws, n int, who ...int) []gift {
	var list []gift
	for _, each := range who {
		list = append(list, gift{each, d.vector(n), d.seed()})
	}
	return list
}

// hiddenSum is the sum of Hidden vectors, of gifts of donors who all have these others' Cards.
func hiddenSum(t *testing.T, n int, list []gift, others []api.Card) total {
	t.Helper()
	sum := make(total, n)
	for _, g := range list {
		v, e := mask.Hide(g.x, g.who, g.own, secretOf(g.who), others)
		if e != api.OK || len(v) != n {
			t.Errorf("Hide of %d answers %d numbers, %d", g.who, len(v), e)
			return sum
		}
		sum.with(1, v)
	}
	return sum
}

// plainSum is what they hid and their own masks, and no masks of two.
func plainSum(n int, list []gift) []uint32 {
	sum := make(total, n)
	for _, g := range list {
		sum.with(1, g.x).with(1, mask.Own(g.own, n))
	}
	return sum.vector()
}

func someDonors() [][]int {
	return [][]int{{1}, {64}, {1, 2}, {1, 64}, {63, 64}, {1, 2, 3}, {2, 33, 64}, {1, 5, 6, 7, 62, 64}, from(10, 25), from(1, donors)}
}

// What follows: in the sum of all Hidden vectors there are no masks of two any more.
func TestSumOfAll(t *testing.T) {
	d := draws(8)
	for _, who := range someDonors() {
		for _, n := range []int{0, 1, 17, longest} {
			list := gifts(&d, n, who...)
			checkVector(t, "the sum", hiddenSum(t, n, list, cards(who...)).vector(), plainSum(n, list))
		}
	}
}

// The same where no donor's own Card is among those that it has.
func TestSumWithoutOwnCards(t *testing.T) {
	d := draws(9)
	for _, who := range someDonors() {
		list := gifts(&d, 5, who...)
		sum := make(total, 5)
		for _, g := range list {
			others := cards(slices.DeleteFunc(slices.Clone(who), func(n int) bool { return n == g.who })...)
			sum.with(1, hiddenSum(t, 5, []gift{g}, others).vector())
		}
		checkVector(t, "the sum", sum.vector(), plainSum(5, list))
	}
}

// One of them gives nothing: its Left is all that stands in the sum of the others beyond what they hid and their own masks.
func TestSumWithoutOne(t *testing.T) {
	d := draws(10)
	for _, who := range someDonors() {
		for i, gone := range who {
			n := []int{1, 7, longest}[i%3]
			stay := slices.Delete(slices.Clone(who), i, i+1)
			list := gifts(&d, n, stay...)
			for _, others := range [][]api.Card{cards(stay...), cards(who...)} { // its own Card is passed over
				left, e := mask.Left(gone, secretOf(gone), others, n)
				if e != api.OK || len(left) != n {
					t.Fatalf("Left of %d answers %d numbers, %d", gone, len(left), e)
				}
				sum := hiddenSum(t, n, list, cards(who...)).with(-1, left).vector()
				checkVector(t, "the sum", sum, plainSum(n, list))
			}
		}
	}
}

// Many of them give nothing: each one's Left, of those that gave.
func TestSumWithoutMany(t *testing.T) {
	d := draws(11)
	for _, who := range someDonors() {
		for range 5 {
			var stay, gone []int
			for _, n := range who {
				if d.next()%2 == 0 {
					stay = append(stay, n)
				} else {
					gone = append(gone, n)
				}
			}
			list := gifts(&d, 6, stay...)
			sum := hiddenSum(t, 6, list, cards(who...))
			for _, n := range gone {
				left, _ := mask.Left(n, secretOf(n), cards(stay...), 6)
				sum.with(-1, left)
			}
			checkVector(t, "the sum", sum.vector(), plainSum(6, list))
		}
	}
}

// A Hidden vector is not the vector, at any number, but by chance: even where all its numbers are 0.
func TestHidden(t *testing.T) {
	zeros := make([]uint32, longest)
	for _, c := range crowds() {
		got, _ := c.hide(zeros, api.Seed{1})
		same := 0
		for i, n := range got {
			if n == zeros[i] {
				same++
			}
		}
		if same > 1 {
			t.Errorf("%d numbers are not hidden", same)
		}
	}
}

// withRoom is a copy of the list in memory of its own, with marks in its spare room.
func withRoom[T any](list []T, mark T) []T {
	room := slices.Repeat([]T{mark}, len(list)+9)
	copy(room, list)
	return room[:len(list)]
}

func whole[T any](list []T) []T { return list[:cap(list)] }

// checkMemory holds a call against R4: what it is handed stays as it is, and its answers are memory of their own.
func checkMemory(t *testing.T, name string, plain []uint32, others []api.Card, act func(x []uint32, others []api.Card) []uint32) {
	t.Helper()
	x, list := withRoom(plain, 77), withRoom(others, api.Card{Who: 78, Lock: 79, Key: 80})
	before, beforeCards := slices.Clone(whole(x)), slices.Clone(whole(list))
	first, second := act(x, list), act(x, list)
	kept := slices.Clone(whole(second))
	for i := range whole(first) {
		whole(first)[i] = 0x5a5a5a5a
	}
	if !slices.Equal(whole(x), before) || !slices.Equal(whole(list), beforeCards) {
		t.Errorf("%s changes what is handed in, or answers its memory", name)
	}
	clear(whole(x))
	clear(whole(list))
	if !slices.Equal(whole(second), kept) {
		t.Errorf("%s answers the same memory twice, or what was handed in", name)
	}
	if third := act(plain, others); !slices.Equal(third, second) {
		t.Errorf("%s is %x the second time, not %x", name, third, second)
	}
}

func TestMemory(t *testing.T) {
	d := draws(12)
	wrong := []call{of(0, 1, 2), of(65, 1, 2), of(5, 2, 1), of(5, 0, 1), {5, 0, cards(1, 2)}, {5, 77, []api.Card{card(1), {Who: 2, Key: 1}}}}
	for _, c := range append(crowds(), wrong...) {
		for _, n := range []int{0, 1, 17, longest, longest + 1} {
			checkMemory(t, "Hide", d.vector(n), c.others, func(x []uint32, others []api.Card) []uint32 {
				v, _ := mask.Hide(x, c.who, api.Seed{1}, c.secret, others)
				return v
			})
			checkMemory(t, "Left", nil, c.others, func(_ []uint32, others []api.Card) []uint32 {
				v, _ := mask.Left(c.who, c.secret, others, n)
				return v
			})
		}
	}
	for _, n := range []int{-1, 0, 1, 17, longest, longest + 1} {
		checkMemory(t, "Own", nil, nil, func([]uint32, []api.Card) []uint32 { return mask.Own(api.Seed{1}, n) })
		checkMemory(t, "Pair", nil, nil, func([]uint32, []api.Card) []uint32 {
			v, _ := mask.Pair(77, 5, n)
			return v
		})
	}
}

// What one call answers does not hang on those before it, wrong ones among them.
func TestNothingIsKept(t *testing.T) {
	for range 3 {
		for _, c := range []call{of(5, 1, 2, 5, 64), of(64, from(1, donors)...), of(1), of(5, 1, 2, 5, 33)} {
			c.check(t, api.OK)
			c.checkLeft(t, -1, api.ErrArg)
			c.checkHide(t, make([]uint32, longest+1), api.Seed{2}, api.ErrArg)
			call{0, c.secret, c.others}.check(t, api.ErrArg)
			call{5, 0, cards(1, 2)}.check(t, api.ErrArg)
			call{5, 77, []api.Card{card(1), {Who: 2, Key: 1}}}.check(t, api.ErrKey)
			c.checkHide(t, []uint32{1, 2}, api.Seed{2}, api.OK)
			checkVector(t, "Own", mask.Own(api.Seed{2}, 9), plainOwn(api.Seed{2}, 9))
			checkVector(t, "Pair", pairOf(t, 77, 5, 9), plainPair(77, 5, 9))
		}
	}
}
