package seal_test

import (
	"bytes"
	"encoding/binary"
	"encoding/hex"
	"math"
	"math/big"
	"slices"
	"testing"

	"offertory/api"
	"offertory/cipher"
	"offertory/seal"
)

const (
	donors = 64
	most   = 8
	half   = (api.P - 1) / 2 // the secret whose public number is P - 1, which no group.Agree takes
)

// draws are numbers that look drawn; each call has another.
type draws uint64

func (d *draws) next() uint64 {
	*d = *d*6364136223846793005 + 1442695040888963407
	return uint64(*d) ^ uint64(*d)>>29
}

func (d *draws) donor() int { return int(d.next()%donors) + 1 }

func (d *draws) secret() uint64 { return d.next()%(api.P-2) + 1 }

func (d *draws) public() uint64 { return d.next()%(api.P-3) + 2 }

func (d *draws) values(n int) []uint64 {
	var list []uint64
	for range n {
		list = append(list, d.next()%api.P)
	}
	return list
}

// raised is a power that is worked out without packages prime and group.
func raised(base, n uint64) uint64 {
	large := func(n uint64) *big.Int { return new(big.Int).SetUint64(n) }
	return new(big.Int).Exp(large(base), large(n), large(api.P)).Uint64()
}

func public(secret uint64) uint64 { return raised(api.Gen, secret) }

// way is what each call is given beside the values or the bytes.
type way struct {
	secret, public uint64
	from, to       int
}

func (w way) lock(values []uint64) ([]byte, api.Errno) {
	return seal.Lock(w.secret, w.public, w.from, w.to, values)
}

func (w way) open(data []byte) ([]uint64, api.Errno) {
	return seal.Open(w.secret, w.public, w.from, w.to, data)
}

// good is a way of which nothing is wrong.
var good = way{secret: 77, public: 713382385997058412, from: 3, to: 64}

// block is the first of a stream, and a parcel is never longer than it.
func block(seed api.Seed, tag uint32) [64]byte {
	var nonce [12]byte
	binary.LittleEndian.PutUint32(nonce[:], tag)
	return cipher.Block(seed, 0, nonce)
}

// stream is the plain way of a parcel's stream, without package stream.
func (w way) stream() [64]byte {
	var agreed, seed api.Seed
	binary.LittleEndian.PutUint64(agreed[:], raised(w.public, w.secret))
	first := block(agreed, 1)
	copy(seed[:], first[:])
	return block(seed, uint32(256*w.from+w.to))
}

// under is values, whatever they are, as bytes under the way's stream.
func (w way) under(values ...uint64) []byte {
	var b []byte
	for _, n := range values {
		b = binary.LittleEndian.AppendUint64(b, n)
	}
	for i, x := range w.stream() {
		if i < len(b) {
			b[i] ^= x
		}
	}
	return b
}

func (w way) checkLock(t *testing.T, values []uint64, want []byte, wantError api.Errno) {
	t.Helper()
	if got, e := w.lock(values); !bytes.Equal(got, want) || e != wantError {
		t.Errorf("Lock(%d, %d, %d, %d, %x) is %x, %d, not %x, %d", w.secret, w.public, w.from, w.to, values, got, e, want, wantError)
	}
}

func (w way) checkOpen(t *testing.T, data []byte, want []uint64, wantError api.Errno) {
	t.Helper()
	if got, e := w.open(data); !slices.Equal(got, want) || e != wantError {
		t.Errorf("Open(%d, %d, %d, %d, %x) is %x, %d, not %x, %d", w.secret, w.public, w.from, w.to, data, got, e, want, wantError)
	}
}

// secrets are allowed ones: the ends, what stands beside the middle, and some in between.
func secrets() []uint64 {
	d := draws(1)
	list := []uint64{1, 2, 3, 61, 77, 1 << 32, 1 << 60, half - 1, half, half + 1, api.P - 3, api.P - 2}
	for range 8 {
		list = append(list, d.secret())
	}
	return list
}

func publics() []uint64 {
	d := draws(2)
	list := []uint64{2, 3, 37, 1 << 32, 1 << 60, half, api.P - 3, api.P - 2}
	for range 8 {
		list = append(list, d.public())
	}
	return list
}

// beyond are numbers above P - 1; what some of them are modulo P would be fine.
func beyond() []uint64 {
	return []uint64{api.P, api.P + 1, api.P + 2, 2*api.P - 2, 2 * api.P, 2*api.P + 5, 1 << 61, 1 << 62, 1 << 63, math.MaxUint64 - 1, math.MaxUint64}
}

func badSecrets() []uint64 { return append([]uint64{0, api.P - 1}, beyond()...) }

func badPublics() []uint64 { return append([]uint64{0, 1, api.P - 1}, beyond()...) }

// noDonors are numbers that no donor has: of some, the lowest bits would be fine.
func noDonors() []int {
	return []int{
		math.MinInt, math.MinInt + 1, math.MinInt + 3, math.MinInt32, -256, -65, -64, -2, -1, 0,
		donors + 1, donors + 2, 128, 255, 256, 257, 1<<16 + 1, math.MaxInt32, math.MaxUint32, 1<<32 + 1, 1<<56 + 3, math.MaxInt - 1, math.MaxInt,
	}
}

// places are pairs of donors: the ends, such that turn round, and some whose numbers lie one beside the other.
func places() [][2]int {
	return [][2]int{{1, 1}, {1, 2}, {2, 1}, {2, 2}, {1, 64}, {64, 1}, {63, 64}, {64, 63}, {64, 64}, {3, 64}, {16, 17}, {32, 8}, {33, 33}}
}

// bounds are values at their ends.
func bounds() []uint64 { return []uint64{0, 1, 255, 256, 1 << 32, 1 << 60, api.P - 2, api.P - 1} }

// known are parcels that another program made, by its own ChaCha20 and its own powers.
func known() []struct {
	way    way
	values []uint64
	text   string
} {
	return []struct {
		way    way
		values []uint64
		text   string
	}{
		{way{77, 713382385997058412, 3, 64}, []uint64{0, 1, api.P - 1, 12345678901234567}, "126be2068f4abd7779ce3dffa40126e20004e4bdbf5c47d9195559ea0280b942"},
		{way{99, 1171324285773547300, 64, 3}, []uint64{0, 1, api.P - 1, 12345678901234567}, "dc619f2d5e298ca701023668417e2d240631571e06d347125bf1512d26086d7f"},
		{way{1, 2, 1, 1}, make([]uint64, 8), "2d0c9082fce0fd5c3ca1b3451aafa810bfa663623ce76a4321c21e603141c9d0e22ee5aa06f50fc7e7e67c2136ea89cf289982715a354c6826a60b069512dd33"},
		{way{api.P - 2, api.P - 2, 64, 64}, slices.Repeat([]uint64{api.P - 1}, 8), "5c4d93bd2e722c4402f35022cc32ebf115658e52d665d1aeedf71189e30a6434009d4e41836f157140d698c2df02b9bfacabb6b41cb7d775ff0b819f434b25ae"},
		{way{123456789, 1436856447031400654, 1, 2}, []uint64{5}, "d07e70e16ac8ea6b"},
		{way{61, 2, 2, 1}, []uint64{0x0102030405060708, 0x1112131415161718, 7}, "4c16a990e93eec0a78f2913180f3a93b3bfc14c2a1c9af2b"},
	}
}

func TestKnown(t *testing.T) {
	for _, c := range known() {
		data, err := hex.DecodeString(c.text)
		if err != nil {
			t.Fatal(err)
		}
		c.way.checkLock(t, c.values, data, api.OK)
		c.way.checkOpen(t, data, c.values, api.OK)
	}
}

// Every number of values, with secrets, public numbers and pairs of all kinds.
func TestPlain(t *testing.T) {
	d := draws(3)
	for _, s := range secrets() {
		for _, p := range publics() {
			for n := range most + 1 {
				place := places()[d.next()%uint64(len(places()))]
				w := way{secret: s, public: p, from: place[0], to: place[1]}
				values := d.values(n)
				w.checkLock(t, values, w.under(values...), api.OK)
				w.checkOpen(t, w.under(values...), values, api.OK)
			}
		}
	}
}

// All pairs of donors that there are, each of whose streams is another.
func TestPairs(t *testing.T) {
	seen := map[string][2]int{}
	zeros := make([]uint64, most)
	for from := 1; from <= donors; from++ {
		for to := 1; to <= donors; to++ {
			w := way{secret: good.secret, public: good.public, from: from, to: to}
			w.checkLock(t, zeros, w.under(zeros...), api.OK)
			w.checkOpen(t, w.under(zeros...), zeros, api.OK)
			data, _ := w.lock(zeros)
			if other, there := seen[string(data)]; there {
				t.Errorf("the streams of %v and of %d, %d are the same", other, from, to)
			}
			seen[string(data)] = [2]int{from, to}
		}
	}
}

// Each byte of a stream hides: those of two ways are not the same anywhere but by chance.
func TestTurnedRound(t *testing.T) {
	for _, place := range [][2]int{{1, 2}, {1, 64}, {3, 64}, {63, 64}, {16, 17}} {
		there := way{secret: good.secret, public: good.public, from: place[0], to: place[1]}
		back := way{secret: good.secret, public: good.public, from: place[1], to: place[0]}
		for n := 1; n <= most; n++ {
			values := make([]uint64, n)
			one, _ := there.lock(values)
			other, _ := back.lock(values)
			if len(one) != 8*n || len(other) != 8*n {
				t.Fatalf("%d values are %d bytes there and %d back", n, len(one), len(other))
			}
			for i := range n {
				if bytes.Equal(one[8*i:8*i+8], other[8*i:8*i+8]) {
					t.Errorf("%v: value %d of %d lies under the same bytes there and back", place, i, n)
				}
			}
		}
	}
}

func TestBounds(t *testing.T) {
	d := draws(12)
	for n := 1; n <= most; n++ {
		for i := range n {
			for _, x := range bounds() {
				values := d.values(n)
				values[i] = x
				good.checkLock(t, values, good.under(values...), api.OK)
				good.checkOpen(t, good.under(values...), values, api.OK)
			}
		}
	}
	good.checkLock(t, bounds(), good.under(bounds()...), api.OK)
	good.checkOpen(t, good.under(bounds()...), bounds(), api.OK)
}

// Each bit that a value has is one bit of the bytes.
func TestEachBit(t *testing.T) {
	plain := good.under(make([]uint64, most)...)
	for i := range most {
		for bit := range 61 {
			values := make([]uint64, most)
			values[i] = 1 << bit
			data := bytes.Clone(plain)
			data[8*i+bit/8] ^= 1 << (bit % 8)
			good.checkLock(t, values, data, api.OK)
			good.checkOpen(t, data, values, api.OK)
		}
	}
}

// The higher bits make a value that is not below P.
func TestOpenHighBits(t *testing.T) {
	d := draws(13)
	for n := 1; n <= most; n++ {
		for i := range n {
			for bit := 61; bit < 64; bit++ {
				values := d.values(n)
				values[i] |= 1 << bit
				good.checkOpen(t, good.under(values...), nil, api.ErrRange)
			}
		}
	}
}

func TestNone(t *testing.T) {
	d := draws(4)
	for _, s := range secrets() {
		w := way{secret: s, public: d.public(), from: d.donor(), to: d.donor()}
		for _, values := range [][]uint64{nil, {}, make([]uint64, 0, 9)} {
			w.checkLock(t, values, nil, api.OK)
		}
		for _, data := range [][]byte{nil, {}, make([]byte, 0, 9)} {
			w.checkOpen(t, data, nil, api.OK)
		}
	}
}

func TestTooManyValues(t *testing.T) {
	for _, n := range []int{9, 10, 15, 16, 17, 64, 65, 255, 256, 257, 8192, 8193, 1 << 17} {
		good.checkLock(t, make([]uint64, n), nil, api.ErrArg)
		good.checkLock(t, slices.Repeat([]uint64{api.P}, n), nil, api.ErrArg)
	}
	good.checkLock(t, make([]uint64, 9)[:8], good.under(make([]uint64, 8)...), api.OK)
}

// A value that is too great, at each place among any number of values.
func TestRange(t *testing.T) {
	d := draws(14)
	for n := 1; n <= most; n++ {
		for i := range n {
			for _, x := range beyond() {
				values := d.values(n)
				values[i] = x
				good.checkLock(t, values, nil, api.ErrRange)
				good.checkOpen(t, good.under(values...), nil, api.ErrRange)
			}
		}
	}
}

// A value's highest byte tells, and its lowest does not: they are not read the other way round.
func TestRangeOfTwo(t *testing.T) {
	for _, values := range [][]uint64{{api.P, 0}, {0, api.P}, {api.P, api.P}, {0xff << 56, 0}, {0, 0xff << 56}} {
		good.checkLock(t, values, nil, api.ErrRange)
		good.checkOpen(t, good.under(values...), nil, api.ErrRange)
	}
	for _, values := range [][]uint64{{api.P - 1, 0xff}, {0xff, api.P - 1}} {
		good.checkLock(t, values, good.under(values...), api.OK)
		good.checkOpen(t, good.under(values...), values, api.OK)
	}
}

func TestFromAndTo(t *testing.T) {
	lists := [][]uint64{nil, {5}, make([]uint64, most)}
	for _, values := range lists {
		for _, who := range noDonors() {
			for _, fine := range []int{1, 2, donors - 1, donors} {
				for _, w := range []way{{good.secret, good.public, who, fine}, {good.secret, good.public, fine, who}, {good.secret, good.public, who, who}} {
					w.checkLock(t, values, nil, api.ErrArg)
					w.checkOpen(t, good.under(values...), nil, api.ErrArg)
				}
			}
		}
		for _, place := range places() {
			w := way{secret: good.secret, public: good.public, from: place[0], to: place[1]}
			w.checkLock(t, values, w.under(values...), api.OK)
			w.checkOpen(t, w.under(values...), values, api.OK)
		}
	}
}

func TestFromIsTo(t *testing.T) {
	for who := 1; who <= donors; who++ {
		w := way{secret: good.secret, public: good.public, from: who, to: who}
		w.checkLock(t, bounds(), w.under(bounds()...), api.OK)
		w.checkOpen(t, w.under(bounds()...), bounds(), api.OK)
	}
}

// The group's own error: of the secret first.
func TestSecretAndPublic(t *testing.T) {
	check := func(s, p uint64, want api.Errno) {
		t.Helper()
		w := way{secret: s, public: p, from: 1, to: 2}
		for n := range most + 1 {
			w.checkLock(t, make([]uint64, n), nil, want)
			w.checkOpen(t, make([]byte, 8*n), nil, want)
			w.checkOpen(t, bytes.Repeat([]byte{0xff}, 8*n), nil, want)
		}
	}
	for _, s := range badSecrets() {
		for _, p := range publics() {
			check(s, p, api.ErrArg)
		}
		for _, p := range badPublics() {
			check(s, p, api.ErrArg)
		}
	}
	for _, s := range secrets() {
		for _, p := range badPublics() {
			check(s, p, api.ErrKey)
		}
	}
}

func TestLengths(t *testing.T) {
	d := draws(5)
	for n := range 300 {
		data := make([]byte, n)
		if n%8 == 0 && n <= 64 {
			values := d.values(n / 8)
			good.checkOpen(t, good.under(values...), values, api.OK)
			continue
		}
		good.checkOpen(t, data, nil, api.ErrForm)
		copy(data, good.under(make([]uint64, most)...))
		good.checkOpen(t, data, nil, api.ErrForm)
	}
	for _, n := range []int{256, 512, 1 << 16, 1<<16 + 1, 1<<16 + 8, 1 << 20} {
		good.checkOpen(t, make([]byte, n), nil, api.ErrForm)
	}
	good.checkOpen(t, make([]byte, 72)[:7], nil, api.ErrForm)
}

// fault is one thing that is wrong of a call, and what is told of it.
type fault[T any] struct {
	e    api.Errno
	make func(d *draws, w *way, list []T) []T
}

func oneOf[T any](d *draws, list []T) T { return list[d.next()%uint64(len(list))] }

func badFrom[T any](d *draws, w *way, list []T) []T {
	w.from = oneOf(d, noDonors())
	return list
}

func badTo[T any](d *draws, w *way, list []T) []T {
	w.to = oneOf(d, noDonors())
	return list
}

func badSecret[T any](d *draws, w *way, list []T) []T {
	w.secret = oneOf(d, badSecrets())
	return list
}

func badPublic[T any](d *draws, w *way, list []T) []T {
	w.public = oneOf(d, badPublics())
	return list
}

func tooMany(d *draws, w *way, list []uint64) []uint64 {
	return append(list, d.values(most+1)...)
}

func tooGreat(d *draws, w *way, list []uint64) []uint64 {
	list[d.next()%uint64(len(list))] = oneOf(d, beyond())
	return list
}

// checkFaults goes through all ways to have some of the faults, which stand in the chapter's order: the first one is told.
func checkFaults[T any](t *testing.T, faults []fault[T], act func(d *draws, chosen []fault[T])) {
	t.Helper()
	d := draws(6)
	for set := 1; set < 1<<len(faults); set++ {
		var chosen []fault[T]
		for i, f := range faults {
			if set>>i&1 == 1 {
				chosen = append(chosen, f)
			}
		}
		for range 25 {
			act(&d, chosen)
		}
	}
}

func TestWhichErrorOfLock(t *testing.T) {
	faults := []fault[uint64]{
		{api.ErrArg, badFrom[uint64]}, {api.ErrArg, badTo[uint64]}, {api.ErrArg, tooMany},
		{api.ErrRange, tooGreat}, {api.ErrArg, badSecret[uint64]}, {api.ErrKey, badPublic[uint64]},
	}
	checkFaults(t, faults, func(d *draws, chosen []fault[uint64]) {
		w := way{secret: d.secret(), public: d.public(), from: d.donor(), to: d.donor()}
		values := d.values(int(d.next()%most) + 1)
		for _, f := range chosen {
			values = f.make(d, &w, values)
		}
		w.checkLock(t, values, nil, chosen[0].e)
	})
}

// junk is bytes that no way made: eight values of them are hardly ever all below P.
func junk(d *draws, w *way, list []byte) []byte {
	for i := range list {
		list[i] = byte(d.next() >> 32)
	}
	return list
}

func outOfRange(d *draws, w *way, list []byte) []byte {
	values := d.values(len(list) / 8)
	values[d.next()%uint64(len(values))] = oneOf(d, beyond())
	return w.under(values...)
}

func wrongLength(d *draws, w *way, list []byte) []byte {
	n := oneOf(d, []int{1, 7, 9, 15, 63, 65, 71, 72, 73, 80, 128, 1000})
	return junk(d, w, make([]byte, n))
}

func TestWhichErrorOfOpen(t *testing.T) {
	faults := []fault[byte]{
		{api.ErrArg, badFrom[byte]}, {api.ErrArg, badTo[byte]}, {api.ErrForm, wrongLength},
		{api.ErrArg, badSecret[byte]}, {api.ErrKey, badPublic[byte]},
	}
	checkFaults(t, faults, func(d *draws, chosen []fault[byte]) {
		w := way{secret: d.secret(), public: d.public(), from: d.donor(), to: d.donor()}
		plain := w.under(d.values(int(d.next()%most) + 1)...)
		for _, spoil := range []func(d *draws, w *way, list []byte) []byte{nil, junk, outOfRange} {
			wrong, data := w, bytes.Clone(plain)
			if spoil != nil {
				data = spoil(d, &wrong, data)
			}
			for _, f := range chosen {
				data = f.make(d, &wrong, data)
			}
			wrong.checkOpen(t, data, nil, chosen[0].e)
		}
	})
}

// Whatever bytes come, of the right length: values that lie under them, or ErrRange.
func TestOpenAny(t *testing.T) {
	d := draws(7)
	opened := 0
	for range 4000 {
		w := way{secret: d.secret(), public: d.public(), from: d.donor(), to: d.donor()}
		data := junk(&d, &w, make([]byte, 8*(d.next()%4)))
		hidden, values := bytes.Clone(data), []uint64(nil)
		for i, x := range w.stream() {
			if i < len(hidden) {
				hidden[i] ^= x
			}
		}
		for i := 0; i < len(hidden); i += 8 {
			values = append(values, binary.LittleEndian.Uint64(hidden[i:]))
		}
		if len(values) > 0 && slices.Max(values) >= api.P {
			w.checkOpen(t, data, nil, api.ErrRange)
			continue
		}
		opened++
		w.checkOpen(t, data, values, api.OK)
		w.checkLock(t, values, data, api.OK)
	}
	if opened < 1000 || opened > 3000 {
		t.Errorf("%d of 4000 are opened", opened)
	}
}

// What follows: the other one, who has another secret, opens what was locked.
func TestOtherOneOpens(t *testing.T) {
	d := draws(8)
	for _, a := range secrets() {
		for _, b := range secrets() {
			if a == half || b == half {
				continue // its public number is no good one
			}
			place := places()[d.next()%uint64(len(places()))]
			there := way{secret: a, public: public(b), from: place[0], to: place[1]}
			back := way{secret: b, public: public(a), from: place[0], to: place[1]}
			for _, values := range [][]uint64{nil, d.values(1), d.values(5), d.values(8), bounds()} {
				data, e := there.lock(values)
				if e != api.OK {
					t.Errorf("%v locks %x with %d", there, values, e)
				}
				back.checkOpen(t, data, values, api.OK)
				there.checkOpen(t, data, values, api.OK)
			}
		}
	}
}

// The same among some donors, all pairs of them.
func TestCrowd(t *testing.T) {
	d := draws(9)
	who := []int{1, 2, 3, 16, 31, 32, 33, 63, 64}
	secretOf := map[int]uint64{}
	for _, n := range who {
		secretOf[n] = d.secret()
	}
	for _, from := range who {
		for _, to := range who {
			values := d.values(5)
			data, e := way{secretOf[from], public(secretOf[to]), from, to}.lock(values)
			if e != api.OK || len(data) != 40 {
				t.Errorf("%d, %d: Lock answers %d bytes, %d", from, to, len(data), e)
			}
			way{secretOf[to], public(secretOf[from]), from, to}.checkOpen(t, data, values, api.OK)
		}
	}
}

func checkShut(t *testing.T, w way, data []byte, values []uint64) {
	t.Helper()
	if got, _ := w.open(data); slices.Equal(got, values) {
		t.Errorf("%v opens what another way locked", w)
	}
}

// Nobody else: with another secret, another public number or another pair there are other values, or none.
func TestNobodyElseOpens(t *testing.T) {
	d := draws(10)
	for range 300 {
		a, b := d.secret(), d.secret()
		from, to := d.donor(), d.donor()
		values := d.values(int(d.next()%most) + 1)
		data, _ := way{a, public(b), from, to}.lock(values)
		checkShut(t, way{b%(api.P-2) + 1, public(a), from, to}, data, values)
		checkShut(t, way{d.secret(), public(a), from, to}, data, values)
		checkShut(t, way{b, d.public(), from, to}, data, values)
		checkShut(t, way{b, public(a), from%donors + 1, to}, data, values)
		checkShut(t, way{b, public(a), from, to%donors + 1}, data, values)
		if from != to {
			checkShut(t, way{b, public(a), to, from}, data, values)
		}
	}
}

// withRoom is a copy of the list in memory of its own, with marks in its spare room.
func withRoom[T any](list []T, mark T) []T {
	room := slices.Repeat([]T{mark}, len(list)+9)
	copy(room, list)
	return room[:len(list)]
}

func whole[T any](list []T) []T { return list[:cap(list)] }

// checkMemory holds a call against R4: what it is handed stays as it is, and its answers are memory of their own.
func checkMemory[I, O comparable](t *testing.T, name string, plain []I, mark I, scrap O, act func(list []I) ([]O, api.Errno)) {
	t.Helper()
	list := withRoom(plain, mark)
	before := slices.Clone(whole(list))
	first, _ := act(list)
	second, _ := act(list)
	kept := slices.Clone(whole(second))
	for i := range whole(first) {
		whole(first)[i] = scrap
	}
	if !slices.Equal(whole(list), before) {
		t.Errorf("%s of %v changes what is handed in, or answers its memory", name, plain)
	}
	clear(whole(list))
	if !slices.Equal(whole(second), kept) {
		t.Errorf("%s of %v answers the same memory twice, or what was handed in", name, plain)
	}
	if third, _ := act(plain); !slices.Equal(third, second) {
		t.Errorf("%s of %v is %v the second time, not %v", name, plain, third, second)
	}
}

func TestMemory(t *testing.T) {
	d := draws(11)
	for _, w := range []way{good, {0, good.public, 1, 2}, {77, 1, 1, 2}, {77, 5, 0, 2}, {77, 5, 2, 65}} {
		lists := [][]uint64{nil, {}, {0}, {api.P}, {api.P - 1, 0}, {1, api.P}, bounds(), make([]uint64, 9)}
		for n := range most + 1 {
			lists = append(lists, d.values(n))
		}
		for _, values := range lists {
			checkMemory(t, "Lock", values, 77, 0x5a, w.lock)
			checkMemory(t, "Open", good.under(values...), 78, 79, w.open)
		}
		for _, n := range []int{1, 7, 63, 65, 72} {
			checkMemory(t, "Open", make([]byte, n), 78, 79, w.open)
		}
	}
}

// What one call answers does not hang on those before it, wrong ones among them.
func TestNothingIsKept(t *testing.T) {
	back := way{secret: good.secret, public: good.public, from: good.to, to: good.from}
	for range 3 {
		for _, w := range []way{good, back, {1, 2, 1, 1}, {99, 1171324285773547300, 3, 64}} {
			w.checkLock(t, bounds(), w.under(bounds()...), api.OK)
			w.checkLock(t, bounds()[:3], w.under(bounds()[:3]...), api.OK)
			w.checkLock(t, []uint64{api.P}, nil, api.ErrRange)
			w.checkLock(t, make([]uint64, 9), nil, api.ErrArg)
			w.checkOpen(t, w.under(bounds()...), bounds(), api.OK)
			w.checkOpen(t, w.under(4, 5), []uint64{4, 5}, api.OK)
			w.checkOpen(t, w.under(4, api.P), nil, api.ErrRange)
			w.checkOpen(t, make([]byte, 9), nil, api.ErrForm)
			way{0, w.public, 1, 2}.checkLock(t, bounds(), nil, api.ErrArg)
			way{0, w.public, 1, 2}.checkOpen(t, w.under(4), nil, api.ErrArg)
			way{w.secret, 1, 1, 2}.checkLock(t, bounds(), nil, api.ErrKey)
			way{w.secret, 1, 1, 2}.checkOpen(t, w.under(4), nil, api.ErrKey)
			way{w.secret, w.public, 0, 2}.checkOpen(t, w.under(4), nil, api.ErrArg)
		}
	}
}
