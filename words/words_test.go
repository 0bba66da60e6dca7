package words_test

import (
	"bytes"
	"encoding/binary"
	"hash/crc32"
	"math"
	"runtime"
	"slices"
	"testing"

	"offertory/api"
	"offertory/words"
)

const (
	least    = math.MinInt
	greatest = math.MaxInt
	small    = math.MaxUint32
	great    = math.MaxUint64
	donors   = 64
	data     = 64
	numbers  = 256
	values   = 5
	lastWhy  = 17
)

// draws are numbers that look drawn; each call has another.
type draws uint64

func (d *draws) next() uint64 {
	*d = *d*6364136223846793005 + 1442695040888963407
	return uint64(*d) ^ uint64(*d)>>29
}

func (d *draws) below(n int) int { return int(d.next() % uint64(n)) }

func (d *draws) bytes(n int) []byte { return filled(n, func(int) byte { return byte(d.next()) }) }

// filled is a list of n things without spare room, of none nil.
func filled[T any](n int, thing func(i int) T) []T {
	var list []T
	for i := range n {
		list = append(list, thing(i))
	}
	return slices.Clip(list)
}

// The plain way of a word's bytes: the fields one behind the other, by the library's own writing.

func plainSmall(b []byte, n int) []byte    { return binary.LittleEndian.AppendUint32(b, uint32(n)) }
func plainGreat(b []byte, n uint64) []byte { return binary.LittleEndian.AppendUint64(b, n) }

func plainFields(w api.Word) []byte {
	var b []byte
	b = plainSmall(b, w.Kind)
	b = plainSmall(b, w.From)
	b = plainSmall(b, int(w.Why))
	b = plainSmall(b, len(w.Cards))
	for _, c := range w.Cards {
		b = plainSmall(b, c.Who)
		b = plainGreat(b, c.Lock)
		b = plainGreat(b, c.Key)
	}
	b = plainSmall(b, len(w.Parcels))
	for _, p := range w.Parcels {
		b = plainSmall(b, p.From)
		b = plainSmall(b, p.To)
		b = plainSmall(b, len(p.Data))
		b = append(b, p.Data...)
	}
	b = plainSmall(b, len(w.Vector))
	for _, n := range w.Vector {
		b = plainSmall(b, int(n))
	}
	b = plainSmall(b, len(w.Who))
	for _, n := range w.Who {
		b = plainSmall(b, n)
	}
	b = plainSmall(b, len(w.Openings))
	for _, o := range w.Openings {
		b = plainSmall(b, o.Who)
		mark := 0
		if o.Own {
			mark = 1
		}
		b = plainSmall(b, mark)
		b = plainSmall(b, len(o.Values))
		for _, n := range o.Values {
			b = plainGreat(b, n)
		}
	}
	return b
}

// sealed has the check behind the fields, in new memory.
func sealed(fields []byte) []byte {
	return binary.LittleEndian.AppendUint32(slices.Clone(fields), crc32.ChecksumIEEE(fields))
}

func plain(w api.Word) []byte { return sealed(plainFields(w)) }

// fits: do all its numbers fit into fields?
func fits(w api.Word) bool {
	list := []int{w.Kind, w.From, int(w.Why)}
	list = append(list, w.Who...)
	for _, c := range w.Cards {
		list = append(list, c.Who)
	}
	for _, p := range w.Parcels {
		list = append(list, p.From, p.To)
	}
	for _, o := range w.Openings {
		list = append(list, o.Who)
	}
	return slices.Min(list) >= 0 && slices.Max(list) <= small
}

// cursor is the plain way to read fields: what is left, and whether all was there and as it may be.
type cursor struct {
	rest []byte
	bad  bool
}

func (c *cursor) take(n int) []byte {
	if c.bad || n > len(c.rest) {
		c.bad = true
		return make([]byte, min(n, 8))
	}
	piece := c.rest[:n]
	c.rest = c.rest[n:]
	return piece
}

func (c *cursor) small() int    { return int(binary.LittleEndian.Uint32(c.take(4))) }
func (c *cursor) great() uint64 { return binary.LittleEndian.Uint64(c.take(8)) }

// plainWord reads fields; each thing is looked for before it is read.
func plainWord(fields []byte) (w api.Word, ok bool) {
	c := &cursor{rest: fields}
	w.Kind, w.From, w.Why = c.small(), c.small(), api.Errno(c.small())
	for n := c.small(); n > 0 && !c.bad; n-- {
		w.Cards = append(w.Cards, api.Card{Who: c.small(), Lock: c.great(), Key: c.great()})
	}
	for n := c.small(); n > 0 && !c.bad; n-- {
		p := api.Parcel{From: c.small(), To: c.small()}
		p.Data = slices.Clone(c.take(c.small()))
		w.Parcels = append(w.Parcels, p)
	}
	for n := c.small(); n > 0 && !c.bad; n-- {
		w.Vector = append(w.Vector, uint32(c.small()))
	}
	for n := c.small(); n > 0 && !c.bad; n-- {
		w.Who = append(w.Who, c.small())
	}
	for n := c.small(); n > 0 && !c.bad; n-- {
		o := api.Opening{Who: c.small()}
		mark := c.small()
		if mark > 1 {
			return w, false
		}
		o.Own = mark == 1
		for n := c.small(); n > 0 && !c.bad; n-- {
			o.Values = append(o.Values, c.great())
		}
		w.Openings = append(w.Openings, o)
	}
	return w, !c.bad && len(c.rest) == 0
}

// plainGood holds a word against what its kind may have, part by part.
func plainGood(w api.Word) bool {
	if w.Kind < 1 || w.Kind > 8 || w.From < 0 || w.From > donors {
		return false
	}
	if fromWarden := w.Kind == 2 || w.Kind == 4 || w.Kind == 6; fromWarden != (w.From == 0) {
		return false
	}
	for _, part := range []struct {
		empty bool
		kinds []int
	}{
		{len(w.Cards) == 0, []int{1, 2}}, {len(w.Parcels) == 0, []int{3, 4}}, {len(w.Vector) == 0, []int{5}},
		{len(w.Who) == 0, []int{6}}, {len(w.Openings) == 0, []int{7}}, {w.Why == 0, []int{8}},
	} {
		if !part.empty && !slices.Contains(part.kinds, w.Kind) {
			return false
		}
	}
	var order []int
	for _, c := range w.Cards {
		order = append(order, c.Who)
	}
	for _, p := range w.Parcels {
		by, other := p.To, p.From
		if w.Kind == 4 {
			by, other = p.From, p.To
		}
		if other < 1 || other > donors || len(p.Data) > data {
			return false
		}
		order = append(order, by)
	}
	order = append(order, w.Who...)
	for _, o := range w.Openings {
		if len(o.Values) > values {
			return false
		}
		order = append(order, o.Who)
	}
	sorted := slices.Clone(order)
	slices.Sort(sorted)
	if !slices.Equal(order, slices.Compact(sorted)) {
		return false
	}
	if len(order) > 0 && (order[0] < 1 || order[len(order)-1] > donors) {
		return false
	}
	switch w.Kind {
	case 1:
		return len(w.Cards) == 1 && w.Cards[0].Who == w.From
	case 5:
		return len(w.Vector) <= numbers
	case 8:
		return w.Why >= 1 && w.Why <= lastWhy
	}
	return true
}

// plainSame holds words against each other thing by thing.
func plainSame(a, b api.Word) bool {
	if a.Kind != b.Kind || a.From != b.From || a.Why != b.Why {
		return false
	}
	if len(a.Cards) != len(b.Cards) || len(a.Parcels) != len(b.Parcels) || len(a.Vector) != len(b.Vector) || len(a.Who) != len(b.Who) || len(a.Openings) != len(b.Openings) {
		return false
	}
	for i, x := range a.Cards {
		if y := b.Cards[i]; x.Who != y.Who || x.Lock != y.Lock || x.Key != y.Key {
			return false
		}
	}
	for i, x := range a.Parcels {
		if y := b.Parcels[i]; x.From != y.From || x.To != y.To || string(x.Data) != string(y.Data) {
			return false
		}
	}
	for i, x := range a.Vector {
		if x != b.Vector[i] {
			return false
		}
	}
	for i, x := range a.Who {
		if x != b.Who[i] {
			return false
		}
	}
	for i, x := range a.Openings {
		y := b.Openings[i]
		if x.Who != y.Who || x.Own != y.Own || len(x.Values) != len(y.Values) {
			return false
		}
		for k, n := range x.Values {
			if n != y.Values[k] {
				return false
			}
		}
	}
	return true
}

func isEmpty(w api.Word) bool { return plainSame(w, api.Word{}) }

// Words of each kind.

func cards(n int) []api.Card {
	return filled(n, func(i int) api.Card { return api.Card{Who: i + 1, Lock: great - uint64(i), Key: uint64(i)<<56 + 1} })
}

func parcelsTo(n int) []api.Parcel {
	return filled(n, func(i int) api.Parcel {
		return api.Parcel{From: donors - i, To: i + 1, Data: filled(data, func(k int) byte { return byte(i + k) })}
	})
}

func parcelsFrom(n int) []api.Parcel {
	return filled(n, func(i int) api.Parcel {
		return api.Parcel{From: i + 1, To: donors - i, Data: filled(data, func(k int) byte { return byte(i * k) })}
	})
}

func vector(n int) []uint32 {
	return filled(n, func(i int) uint32 { return small - uint32(i)<<20 })
}

func whos(n int) []int { return filled(n, func(i int) int { return i + 1 }) }

func openings(n int) []api.Opening {
	return filled(n, func(i int) api.Opening {
		return api.Opening{Who: i + 1, Own: i%2 == 0, Values: filled(values, func(k int) uint64 { return great - uint64(i)<<k })}
	})
}

func plainest() []api.Word {
	return []api.Word{
		{Kind: api.Hello, From: 1, Cards: []api.Card{{Who: 1}}},
		{Kind: api.Roster},
		{Kind: api.Parcels, From: 1},
		{Kind: api.Bundle},
		{Kind: api.Gift, From: 1},
		{Kind: api.Names},
		{Kind: api.Opened, From: 1},
		{Kind: api.Refused, From: 1, Why: 1},
	}
}

func fullest() []api.Word {
	return []api.Word{
		{Kind: api.Hello, From: donors, Cards: []api.Card{{Who: donors, Lock: great, Key: great}}},
		{Kind: api.Roster, Cards: cards(donors)},
		{Kind: api.Parcels, From: donors, Parcels: parcelsTo(donors)},
		{Kind: api.Bundle, Parcels: parcelsFrom(donors)},
		{Kind: api.Gift, From: donors, Vector: vector(numbers)},
		{Kind: api.Names, Who: whos(donors)},
		{Kind: api.Opened, From: donors, Openings: openings(donors)},
		{Kind: api.Refused, From: donors, Why: api.ErrDone},
	}
}

// between have a few things each, and lists within them that are empty beside such as are not.
func between() []api.Word {
	return []api.Word{
		{Kind: api.Hello, From: 7, Cards: []api.Card{{Who: 7, Lock: 0x0102030405060708, Key: 1 << 63}}},
		{Kind: api.Roster, Cards: []api.Card{{Who: 2, Lock: 3, Key: 4}, {Who: 9, Lock: 1 << 40}, {Who: 64, Key: great}}},
		{Kind: api.Parcels, From: 5, Parcels: []api.Parcel{{From: 5, To: 1, Data: []byte("abc")}, {From: 64, To: 6}, {From: 1, To: 7, Data: []byte{0}}}},
		{Kind: api.Bundle, Parcels: []api.Parcel{{From: 1, To: 3}, {From: 2, To: 3, Data: []byte("\xff\x00")}, {From: 40, To: 64, Data: make([]byte, data)}}},
		{Kind: api.Gift, From: 9, Vector: []uint32{0, small, 0x01020304, 1 << 31}},
		{Kind: api.Names, Who: []int{3, 4, 63}},
		{Kind: api.Opened, From: 2, Openings: []api.Opening{{Who: 1, Own: true, Values: []uint64{0, 1 << 63, great}}, {Who: 2}, {Who: 5, Values: []uint64{7}}, {Who: 64, Own: true}}},
		{Kind: api.Refused, From: 33, Why: api.ErrCap},
	}
}

func allGood() []api.Word { return slices.Concat(plainest(), between(), fullest()) }

// copied is apart from the word, with the same things; its lists have no spare room, and empty ones are nil.
func copied(w api.Word) api.Word {
	w.Cards = append([]api.Card(nil), w.Cards...)
	w.Parcels = filled(len(w.Parcels), func(i int) api.Parcel {
		p := w.Parcels[i]
		return api.Parcel{From: p.From, To: p.To, Data: append([]byte(nil), p.Data...)}
	})
	w.Vector = append([]uint32(nil), w.Vector...)
	w.Who = append([]int(nil), w.Who...)
	w.Openings = filled(len(w.Openings), func(i int) api.Opening {
		o := w.Openings[i]
		return api.Opening{Who: o.Who, Own: o.Own, Values: append([]uint64(nil), o.Values...)}
	})
	return w
}

// emptied is the word with empty lists for nil ones, with room or without.
func emptied(w api.Word, room int) api.Word {
	w = copied(w)
	w.Cards = append(make([]api.Card, 0, room), w.Cards...)
	w.Parcels = append(make([]api.Parcel, 0, room), w.Parcels...)
	for i := range w.Parcels {
		w.Parcels[i].Data = append(make([]byte, 0, room), w.Parcels[i].Data...)
	}
	w.Vector = append(make([]uint32, 0, room), w.Vector...)
	w.Who = append(make([]int, 0, room), w.Who...)
	w.Openings = append(make([]api.Opening, 0, room), w.Openings...)
	for i := range w.Openings {
		w.Openings[i].Values = append(make([]uint64, 0, room), w.Openings[i].Values...)
	}
	return w
}

// checkGood: it may be said, its bytes are the plain ones, and are the word again.
func checkGood(t *testing.T, w api.Word) {
	t.Helper()
	if !words.Good(w) {
		t.Errorf("not good: %+v", w)
	}
	want := plain(w)
	if b, e := words.Encode(w); e != api.OK || !bytes.Equal(b, want) {
		t.Errorf("Encode is %x, %d, not %x, of %+v", b, e, want, w)
	}
	x, e := words.Decode(want)
	if e != api.OK || !plainSame(x, w) {
		t.Errorf("Decode is %+v, %d, not %+v", x, e, w)
	}
	if !words.Same(w, x) || !words.Same(x, w) {
		t.Errorf("not the same: %+v and %+v", w, x)
	}
}

// checkWrong: it may not be said, has no bytes, and what would be its bytes is no word.
func checkWrong(t *testing.T, w api.Word) {
	t.Helper()
	if words.Good(w) {
		t.Errorf("good: %+v", w)
	}
	if b, e := words.Encode(w); e != api.ErrForm || len(b) != 0 {
		t.Errorf("Encode is %d bytes, %d, of %+v", len(b), e, w)
	}
	if fits(w) {
		checkNoWord(t, plain(w))
	}
}

func checkNoWord(t *testing.T, b []byte) {
	t.Helper()
	if w, e := words.Decode(b); e != api.ErrForm || !isEmpty(w) {
		t.Errorf("Decode is %+v, %d, of %d bytes", w, e, len(b))
	}
}

// checkAny: the word is good, or not, as it plainly is.
func checkAny(t *testing.T, w api.Word) {
	t.Helper()
	if plainGood(w) {
		checkGood(t, w)
	} else {
		checkWrong(t, w)
	}
}

// checkFields: the fields are read, or not, as they plainly may be.
func checkFields(t *testing.T, fields []byte) {
	t.Helper()
	w, ok := plainWord(fields)
	if !ok || !plainGood(w) {
		checkNoWord(t, sealed(fields))
		return
	}
	if x, e := words.Decode(sealed(fields)); e != api.OK || !plainSame(x, w) {
		t.Errorf("Decode is %+v, %d, not %+v", x, e, w)
	}
}

func TestGood(t *testing.T) {
	for _, w := range allGood() {
		if !plainGood(w) {
			t.Errorf("plainly not good: %+v", w)
		}
		checkGood(t, w)
		checkGood(t, emptied(w, 0))
		checkGood(t, emptied(w, 5))
	}
	checkWrong(t, api.Word{})
	checkWrong(t, emptied(api.Word{}, 3))
}

func wrongKinds() []int {
	return []int{0, 9, 10, 16, 256 + 1, 1<<32 - 1, 1 << 32, 1<<32 + 1, 1<<32 + 8, -1, -2, -7, -8, -1<<32 + 1, least, least + 1, greatest, greatest - 1}
}

func TestKind(t *testing.T) {
	for _, kind := range wrongKinds() {
		for _, w := range allGood() {
			w.Kind = kind
			checkWrong(t, w)
		}
		checkWrong(t, api.Word{Kind: kind})
		checkWrong(t, api.Word{Kind: kind, From: 1})
	}
	// A kind's own lists are another one's no more than none.
	for kind := range 11 {
		for _, w := range allGood() {
			w.Kind = kind
			checkAny(t, w)
			w.From = 1
			checkAny(t, w)
			w.From = 0
			checkAny(t, w)
		}
	}
}

func fromWarden(kind int) bool { return kind == api.Roster || kind == api.Bundle || kind == api.Names }

func TestFrom(t *testing.T) {
	for _, w := range allGood() {
		for from := -2; from <= donors+3; from++ {
			w.From = from
			if w.Kind == api.Hello {
				w.Cards = []api.Card{{Who: from, Lock: 3, Key: 4}}
			}
			good := from >= 1 && from <= donors
			if fromWarden(w.Kind) {
				good = from == 0
			}
			if good {
				checkGood(t, w)
			} else {
				checkWrong(t, w)
			}
		}
		for _, from := range []int{least, least + 1, -donors, -1 << 32, 128, 1<<32 - 1, 1 << 32, 1<<32 + 1, 1<<32 + donors, greatest} {
			w.From = from
			if w.Kind == api.Hello {
				w.Cards = []api.Card{{Who: from}}
			}
			checkWrong(t, w)
		}
	}
}

func TestHello(t *testing.T) {
	checkWrong(t, api.Word{Kind: api.Hello, From: 3})
	checkWrong(t, api.Word{Kind: api.Hello, From: 3, Cards: []api.Card{}})
	checkWrong(t, api.Word{Kind: api.Hello})
	checkWrong(t, api.Word{Kind: api.Hello, Cards: []api.Card{{}}})
	for from := 1; from <= donors; from++ {
		for who := -1; who <= donors+1; who++ {
			w := api.Word{Kind: api.Hello, From: from, Cards: []api.Card{{Who: who, Lock: 8, Key: 9}}}
			checkAny(t, w)
			w.Cards = []api.Card{{Who: from}, {Who: who}}
			checkWrong(t, w)
			w.Cards = []api.Card{{Who: who}, {Who: from}}
			checkWrong(t, w)
		}
	}
	checkWrong(t, api.Word{Kind: api.Hello, From: 1, Cards: cards(3)})
	checkWrong(t, api.Word{Kind: api.Hello, From: 64, Cards: cards(64)})
	checkWrong(t, api.Word{Kind: api.Hello, From: 1, Cards: cards(65)})
}

// ordered are words of each kind that has donors in an order, with these numbers.
func ordered(order []int) []api.Word {
	w := []api.Word{
		{Kind: api.Roster}, {Kind: api.Parcels, From: 4}, {Kind: api.Bundle}, {Kind: api.Names}, {Kind: api.Opened, From: 9},
	}
	for i, n := range order {
		w[0].Cards = append(w[0].Cards, api.Card{Who: n, Lock: uint64(99 - i), Key: uint64(i)})
		w[1].Parcels = append(w[1].Parcels, api.Parcel{From: 1 + i%3, To: n, Data: make([]byte, i%5)})
		w[2].Parcels = append(w[2].Parcels, api.Parcel{From: n, To: 3 - i%3, Data: make([]byte, i%5)})
		w[3].Who = append(w[3].Who, n)
		w[4].Openings = append(w[4].Openings, api.Opening{Who: n, Own: i%3 == 0, Values: make([]uint64, i%6)})
	}
	return w
}

func TestOrder(t *testing.T) {
	for _, order := range [][]int{
		nil, {1}, {64}, {1, 2}, {1, 64}, {63, 64}, {1, 2, 3}, {5, 6, 64}, {2, 4, 8, 16, 32, 64}, whos(63), whos(64), whos(64)[1:],
	} {
		for _, w := range ordered(order) {
			checkGood(t, w)
		}
	}
	for _, order := range [][]int{
		{0}, {65}, {-1}, {least}, {greatest}, {1<<32 - 1}, {1 << 32}, {1<<32 + 1}, {0, 1}, {64, 65}, {-1, 1}, {0, 0}, {65, 65},
		{1, 1}, {64, 64}, {2, 1}, {64, 1}, {3, 2, 1}, {1, 3, 2}, {2, 1, 3}, {1, 1, 2}, {1, 2, 2}, {1, 2, 1}, {1, 5, 3, 7}, {9, 1, 2, 3}, {1, 2, 3, 3},
		{1, 0, 2}, {1, -1}, {1, 2, 65}, {1, 2, 65, 66}, {65, 1}, {1, 65, 2}, {1, greatest}, {least, 1}, {5, least}, {5, 1<<32 + 6},
		whos(65), append(whos(64), 64), append(whos(64), 0), append(whos(64), 1), append([]int{1}, whos(64)...), append([]int{0}, whos(64)...), append(whos(63), 65), whos(1000),
	} {
		for _, w := range ordered(order) {
			checkWrong(t, w)
		}
	}
}

// Each number of a full list in turn is another one.
func TestOrderEach(t *testing.T) {
	d := draws(1)
	for range 60 {
		order := whos(donors)
		for len(order) > 1 && d.below(4) > 0 {
			at := d.below(len(order))
			order = slices.Delete(order, at, at+1)
		}
		at := d.below(len(order))
		was := order[at]
		for _, n := range []int{-1, 0, 1, was - 1, was, was + 1, 63, 64, 65, d.below(70), d.below(70)} {
			order[at] = n
			for _, w := range ordered(order) {
				checkAny(t, w)
			}
		}
	}
}

func TestParcels(t *testing.T) {
	for _, n := range []int{least, -1, 0, 1, 64, 65, 1<<32 - 1, 1 << 32, 1<<32 + 1, greatest} {
		for _, at := range []int{0, 1, 2} {
			list := []api.Parcel{{From: 5, To: 5}, {From: 6, To: 6}, {From: 7, To: 7}}
			to, from := slices.Clone(list), slices.Clone(list)
			to[at].From, from[at].To = n, n
			checkAny(t, api.Word{Kind: api.Parcels, From: 5, Parcels: to})
			checkAny(t, api.Word{Kind: api.Bundle, Parcels: from})
			// What rises need not be the other's order, too.
			checkAny(t, api.Word{Kind: api.Parcels, From: 5, Parcels: from})
			checkAny(t, api.Word{Kind: api.Bundle, Parcels: to})
		}
	}
	both := []api.Parcel{{From: 3, To: 1}, {From: 2, To: 2}, {From: 1, To: 3}}
	checkGood(t, api.Word{Kind: api.Parcels, From: 3, Parcels: both})
	checkWrong(t, api.Word{Kind: api.Bundle, Parcels: both})
	slices.Reverse(both)
	checkWrong(t, api.Word{Kind: api.Parcels, From: 3, Parcels: both})
	checkGood(t, api.Word{Kind: api.Bundle, Parcels: both})
	all := []api.Parcel{{From: 3, To: 1}, {From: 3, To: 2}}
	checkGood(t, api.Word{Kind: api.Parcels, From: 3, Parcels: all})
	checkWrong(t, api.Word{Kind: api.Bundle, Parcels: all})
}

func TestData(t *testing.T) {
	d := draws(2)
	for n := range data + 5 {
		for at := range 3 {
			list := []api.Parcel{{From: 1, To: 2, Data: []byte("one")}, {From: 2, To: 3}, {From: 3, To: 4, Data: []byte("two")}}
			list[at].Data = d.bytes(n)
			for _, w := range []api.Word{{Kind: api.Parcels, From: 1, Parcels: list}, {Kind: api.Bundle, Parcels: list}} {
				if n <= data {
					checkGood(t, w)
				} else {
					checkWrong(t, w)
				}
			}
		}
	}
	for _, n := range []int{128, 1000, 65000, 1 << 20} {
		checkWrong(t, api.Word{Kind: api.Parcels, From: 1, Parcels: []api.Parcel{{From: 1, To: 2, Data: make([]byte, n)}}})
		checkWrong(t, api.Word{Kind: api.Bundle, Parcels: []api.Parcel{{From: 1, To: 2, Data: make([]byte, n)}}})
	}
}

func TestGift(t *testing.T) {
	for n := range numbers + 1 {
		checkGood(t, api.Word{Kind: api.Gift, From: 1, Vector: vector(n)})
	}
	for _, n := range []int{numbers + 1, numbers + 2, 1000, 16000, 1 << 20} {
		checkWrong(t, api.Word{Kind: api.Gift, From: 1, Vector: make([]uint32, n)})
	}
	for bit := range 32 {
		n := uint32(1) << bit
		checkGood(t, api.Word{Kind: api.Gift, From: 1, Vector: []uint32{n, n - 1, ^n, -n}})
	}
}

func TestOpened(t *testing.T) {
	d := draws(3)
	for n := range values + 4 {
		for at := range 3 {
			list := []api.Opening{{Who: 1, Own: true, Values: []uint64{3}}, {Who: 2}, {Who: 3, Values: []uint64{1, 2}}}
			list[at].Values = filled(n, func(int) uint64 { return d.next() })
			for range 2 {
				list[at].Own = !list[at].Own
				w := api.Word{Kind: api.Opened, From: 1, Openings: list}
				if n <= values {
					checkGood(t, w)
				} else {
					checkWrong(t, w)
				}
			}
		}
	}
	checkWrong(t, api.Word{Kind: api.Opened, From: 1, Openings: []api.Opening{{Who: 1, Values: make([]uint64, 1<<16)}}})
	for bit := range 64 {
		n := uint64(1) << bit
		checkGood(t, api.Word{Kind: api.Opened, From: 1, Openings: []api.Opening{{Who: 1, Values: []uint64{n, n - 1, ^n, -n}}}})
		checkGood(t, api.Word{Kind: api.Roster, Cards: []api.Card{{Who: 1, Lock: n, Key: ^n}, {Who: 2, Lock: n - 1, Key: -n}}})
	}
}

func TestWhy(t *testing.T) {
	for _, w := range allGood() {
		for why := api.Errno(-2); why <= lastWhy+3; why++ {
			w.Why = why
			good := why == 0
			if w.Kind == api.Refused {
				good = why >= 1 && why <= lastWhy
			}
			if good {
				checkGood(t, w)
			} else {
				checkWrong(t, w)
			}
		}
		for _, why := range []api.Errno{least, least + 1, -lastWhy, 256 + 1, 1<<32 - 1, 1 << 32, 1<<32 + 1, greatest} {
			w.Why = why
			checkWrong(t, w)
		}
	}
}

// oneThing are words that have one thing in one list each.
func oneThing() []api.Word {
	return []api.Word{
		{Cards: []api.Card{{Who: 1}}}, {Cards: []api.Card{{}}},
		{Parcels: []api.Parcel{{From: 1, To: 1}}}, {Parcels: []api.Parcel{{}}},
		{Vector: []uint32{0}}, {Vector: []uint32{1}},
		{Who: []int{1}}, {Who: []int{0}},
		{Openings: []api.Opening{{Who: 1}}}, {Openings: []api.Opening{{}}},
	}
}

func TestOthersAreEmpty(t *testing.T) {
	own := map[int]int{api.Hello: 0, api.Roster: 0, api.Parcels: 1, api.Bundle: 1, api.Gift: 2, api.Names: 3, api.Opened: 4, api.Refused: 5}
	for _, was := range allGood() {
		for i, thing := range oneThing() {
			if own[was.Kind] == i/2 {
				continue
			}
			w := copied(was)
			w.Cards = append(w.Cards, thing.Cards...)
			w.Parcels = append(w.Parcels, thing.Parcels...)
			w.Vector = append(w.Vector, thing.Vector...)
			w.Who = append(w.Who, thing.Who...)
			w.Openings = append(w.Openings, thing.Openings...)
			checkWrong(t, w)
		}
	}
}

// Written out, check and all but the check's own bytes.
func TestEncodeKnown(t *testing.T) {
	const none = "\x00\x00\x00\x00"
	for _, c := range []struct {
		w    api.Word
		want string
	}{
		{api.Word{Kind: api.Hello, From: 3, Cards: []api.Card{{Who: 3, Lock: 0x0102030405060708, Key: great - 1}}},
			"\x01\x00\x00\x00\x03\x00\x00\x00" + none + "\x01\x00\x00\x00\x03\x00\x00\x00\x08\x07\x06\x05\x04\x03\x02\x01\xfe\xff\xff\xff\xff\xff\xff\xff" + none + none + none + none},
		{api.Word{Kind: api.Roster}, "\x02\x00\x00\x00" + none + none + none + none + none + none + none},
		{api.Word{Kind: api.Parcels, From: 2, Parcels: []api.Parcel{{From: 2, To: 1, Data: []byte("abc")}, {From: 64, To: 9}}},
			"\x03\x00\x00\x00\x02\x00\x00\x00" + none + none + "\x02\x00\x00\x00\x02\x00\x00\x00\x01\x00\x00\x00\x03\x00\x00\x00abc\x40\x00\x00\x00\x09\x00\x00\x00" + none + none + none + none},
		{api.Word{Kind: api.Bundle, Parcels: []api.Parcel{{From: 2, To: 1, Data: []byte{0}}}},
			"\x04\x00\x00\x00" + none + none + none + "\x01\x00\x00\x00\x02\x00\x00\x00\x01\x00\x00\x00\x01\x00\x00\x00\x00" + none + none + none},
		{api.Word{Kind: api.Gift, From: 64, Vector: []uint32{1, small, 0x01020304}},
			"\x05\x00\x00\x00\x40\x00\x00\x00" + none + none + none + "\x03\x00\x00\x00\x01\x00\x00\x00\xff\xff\xff\xff\x04\x03\x02\x01" + none + none},
		{api.Word{Kind: api.Names, Who: []int{1, 64}},
			"\x06\x00\x00\x00" + none + none + none + none + none + "\x02\x00\x00\x00\x01\x00\x00\x00\x40\x00\x00\x00" + none},
		{api.Word{Kind: api.Opened, From: 1, Openings: []api.Opening{{Who: 2, Own: true, Values: []uint64{1 << 63, 2}}, {Who: 3}}},
			"\x07\x00\x00\x00\x01\x00\x00\x00" + none + none + none + none + none +
				"\x02\x00\x00\x00\x02\x00\x00\x00\x01\x00\x00\x00\x02\x00\x00\x00\x00\x00\x00\x00\x00\x00\x00\x80\x02\x00\x00\x00\x00\x00\x00\x00\x03\x00\x00\x00" + none + none},
		{api.Word{Kind: api.Refused, From: 5, Why: api.ErrDone},
			"\x08\x00\x00\x00\x05\x00\x00\x00\x11\x00\x00\x00" + none + none + none + none + none},
	} {
		b, e := words.Encode(c.w)
		if e != api.OK || !bytes.Equal(b, sealed([]byte(c.want))) {
			t.Errorf("Encode is %x, %d, not %x", b, e, sealed([]byte(c.want)))
		}
		if w, e := words.Decode(sealed([]byte(c.want))); e != api.OK || !plainSame(w, c.w) {
			t.Errorf("Decode is %+v, %d, not %+v", w, e, c.w)
		}
	}
}

// drawnWord is good, or has something or other that is not.
func (d *draws) drawnWord() api.Word {
	w := api.Word{Kind: 1 + d.below(8), From: 1 + d.below(donors)}
	if fromWarden(w.Kind) {
		w.From = 0
	}
	order := filled(donors, func(i int) int { return i + 1 })
	order = slices.DeleteFunc(order, func(int) bool { return d.below(8) != 0 })
	switch w.Kind {
	case api.Hello:
		w.Cards = []api.Card{{Who: w.From, Lock: d.next(), Key: d.next()}}
	case api.Roster:
		w.Cards = filled(len(order), func(i int) api.Card { return api.Card{Who: order[i], Lock: d.next(), Key: d.next()} })
	case api.Parcels:
		w.Parcels = filled(len(order), func(i int) api.Parcel {
			return api.Parcel{From: 1 + d.below(donors), To: order[i], Data: d.bytes(d.below(data + 1))}
		})
	case api.Bundle:
		w.Parcels = filled(len(order), func(i int) api.Parcel {
			return api.Parcel{From: order[i], To: 1 + d.below(donors), Data: d.bytes(d.below(data + 1))}
		})
	case api.Gift:
		w.Vector = filled(d.below(numbers+1), func(int) uint32 { return uint32(d.next()) })
	case api.Names:
		w.Who = order
	case api.Opened:
		w.Openings = filled(len(order), func(i int) api.Opening {
			return api.Opening{Who: order[i], Own: d.below(2) == 0, Values: filled(d.below(values+1), func(int) uint64 { return d.next() })}
		})
	case api.Refused:
		w.Why = api.Errno(1 + d.below(lastWhy))
	}
	return w
}

// changes are ways in which a word becomes another one, where it has what they change.
func (d *draws) changes() []func(w *api.Word) {
	near := func(n int) int { return n + []int{-2, -1, 1, 2, -donors, donors}[d.below(6)] }
	return []func(w *api.Word){
		func(w *api.Word) { w.Kind = near(w.Kind) },
		func(w *api.Word) { w.From = near(w.From) },
		func(w *api.Word) { w.Why += api.Errno(d.below(20) - 10) },
		func(w *api.Word) { change(d, w.Cards, func(c *api.Card) { c.Who = near(c.Who) }) },
		func(w *api.Word) { change(d, w.Cards, func(c *api.Card) { c.Lock ^= 1 << d.below(64) }) },
		func(w *api.Word) { change(d, w.Cards, func(c *api.Card) { c.Key ^= 1 << d.below(64) }) },
		func(w *api.Word) { change(d, w.Parcels, func(p *api.Parcel) { p.From = near(p.From) }) },
		func(w *api.Word) { change(d, w.Parcels, func(p *api.Parcel) { p.To = near(p.To) }) },
		func(w *api.Word) {
			change(d, w.Parcels, func(p *api.Parcel) { p.Data = append(p.Data, byte(d.next())) })
		},
		func(w *api.Word) {
			change(d, w.Parcels, func(p *api.Parcel) { change(d, p.Data, func(x *byte) { *x ^= 1 << d.below(8) }) })
		},
		func(w *api.Word) { change(d, w.Vector, func(n *uint32) { *n ^= 1 << d.below(32) }) },
		func(w *api.Word) { change(d, w.Who, func(n *int) { *n = near(*n) }) },
		func(w *api.Word) { change(d, w.Openings, func(o *api.Opening) { o.Who = near(o.Who) }) },
		func(w *api.Word) { change(d, w.Openings, func(o *api.Opening) { o.Own = !o.Own }) },
		func(w *api.Word) {
			change(d, w.Openings, func(o *api.Opening) { o.Values = append(o.Values, d.next()) })
		},
		func(w *api.Word) {
			change(d, w.Openings, func(o *api.Opening) { change(d, o.Values, func(n *uint64) { *n ^= 1 << d.below(64) }) })
		},
		func(w *api.Word) { w.Cards = moved(d, w.Cards) },
		func(w *api.Word) { w.Parcels = moved(d, w.Parcels) },
		func(w *api.Word) { w.Vector = moved(d, w.Vector) },
		func(w *api.Word) { w.Who = moved(d, w.Who) },
		func(w *api.Word) { w.Openings = moved(d, w.Openings) },
	}
}

// change changes one of the things, if there is one.
func change[T any](d *draws, list []T, how func(*T)) {
	if len(list) > 0 {
		how(&list[d.below(len(list))])
	}
}

// moved has a thing twice, or in another's place, or not any more, or an empty one more.
func moved[T any](d *draws, list []T) []T {
	if len(list) == 0 {
		return make([]T, d.below(2))
	}
	i, k := d.below(len(list)), d.below(len(list))
	switch d.below(4) {
	case 0:
		return slices.Insert(slices.Clone(list), k, list[i])
	case 1:
		list[i], list[k] = list[k], list[i]
		return list
	case 2:
		return slices.Delete(list, i, i+1)
	}
	return append(list, *new(T))
}

func TestMany(t *testing.T) {
	d := draws(4)
	for range 3000 {
		w := d.drawnWord()
		if !plainGood(w) {
			t.Fatalf("plainly not good: %+v", w)
		}
		checkGood(t, w)
		for range 4 {
			x := copied(w)
			for range 1 + d.below(2) {
				list := d.changes()
				list[d.below(len(list))](&x)
			}
			checkAny(t, x)
			if words.Same(w, x) != plainSame(w, x) || words.Same(x, w) != plainSame(w, x) {
				t.Errorf("Same is not %v of %+v and %+v", plainSame(w, x), w, x)
			}
		}
	}
}

func TestDecodeTooFew(t *testing.T) {
	checkNoWord(t, nil)
	checkNoWord(t, []byte{})
	for n := range 40 {
		checkNoWord(t, make([]byte, n))
		checkNoWord(t, sealed(make([]byte, n)))
		checkNoWord(t, bytes.Repeat([]byte{255}, n))
		checkNoWord(t, sealed(bytes.Repeat([]byte{1}, n)))
	}
	for _, w := range slices.Concat(plainest(), between()) {
		b := plain(w)
		for n := range len(b) {
			checkNoWord(t, b[:n])
			checkNoWord(t, b[n+1:])
		}
	}
}

func TestDecodeOneBit(t *testing.T) {
	for _, w := range slices.Concat(plainest(), between()) {
		b := plain(w)
		for i := range len(b) * 8 {
			b[i/8] ^= 1 << (i % 8)
			checkNoWord(t, b)
			b[i/8] ^= 1 << (i % 8)
		}
	}
	for _, w := range fullest() {
		b := plain(w)
		for i := 0; i < len(b)*8; i += 61 {
			b[i/8] ^= 1 << (i % 8)
			checkNoWord(t, b)
			b[i/8] ^= 1 << (i % 8)
		}
	}
}

func TestDecodeWrongCheck(t *testing.T) {
	for _, w := range allGood() {
		fields := plainFields(w)
		for _, n := range []uint32{0, 1, small, crc32.ChecksumIEEE(fields) + 1, ^crc32.ChecksumIEEE(fields), crc32.ChecksumIEEE(fields[1:])} {
			checkNoWord(t, binary.LittleEndian.AppendUint32(slices.Clone(fields), n))
		}
		checkNoWord(t, binary.BigEndian.AppendUint32(slices.Clone(fields), crc32.ChecksumIEEE(fields)))
		checkNoWord(t, fields)
		checkNoWord(t, append(plain(w), 0))
		checkNoWord(t, append(plain(w), plain(w)...))
		checkNoWord(t, append([]byte{0}, plain(w)...))
	}
}

// Behind a right check there are bytes too few, or too many.
func TestDecodeLength(t *testing.T) {
	d := draws(5)
	for _, w := range allGood() {
		fields := plainFields(w)
		for n := range 30 {
			checkNoWord(t, sealed(append(slices.Clone(fields), make([]byte, n+1)...)))
			checkNoWord(t, sealed(append(slices.Clone(fields), d.bytes(n+1)...)))
			if n < len(fields) {
				checkFields(t, fields[:len(fields)-n-1])
				checkFields(t, fields[n+1:])
			}
		}
		checkNoWord(t, sealed(append(slices.Clone(fields), fields...)))
		checkNoWord(t, sealed(plain(w)))
		// As many bytes as may be sealed, and more than these.
		for _, n := range []int{api.MaxBytes - 1, api.MaxBytes, api.MaxBytes + 1, api.MaxBytes + 4, 2 * api.MaxBytes} {
			checkNoWord(t, sealed(append(slices.Clone(fields), make([]byte, n-len(fields))...)))
		}
	}
	for _, w := range slices.Concat(plainest(), between()) {
		fields := plainFields(w)
		for n := range len(fields) {
			checkFields(t, fields[:n])
			checkFields(t, slices.Delete(slices.Clone(fields), n, n+1))
			checkFields(t, slices.Insert(slices.Clone(fields), n, 0))
			if n+4 <= len(fields) {
				checkFields(t, slices.Delete(slices.Clone(fields), n, n+4))
			}
			checkFields(t, slices.Insert(slices.Clone(fields), n, 0, 0, 0, 0))
			checkFields(t, slices.Insert(slices.Clone(fields), n, 1, 0, 0, 0))
		}
	}
}

// Each field in turn is another number, marks, counts and Whys among them, behind a right check.
func TestDecodeFields(t *testing.T) {
	for _, w := range slices.Concat(plainest(), between()) {
		fields := plainFields(w)
		for at := range len(fields) - 3 {
			was := binary.LittleEndian.Uint32(fields[at:])
			for _, n := range []uint32{0, 1, 2, 3, 4, 5, 6, 7, 8, 9, 17, 18, 63, 64, 65, 255, 256, 257, 1 << 16, 1 << 24, 1<<31 - 1, 1 << 31, small - 1, small, was - 1, was + 1} {
				binary.LittleEndian.PutUint32(fields[at:], n)
				checkFields(t, fields)
			}
			binary.LittleEndian.PutUint32(fields[at:], was)
		}
		for i := range len(fields) * 8 {
			fields[i/8] ^= 1 << (i % 8)
			checkFields(t, fields)
			fields[i/8] ^= 1 << (i % 8)
		}
	}
}

// A list is there to its last byte, but there are more things in it than a good word has.
func TestDecodeTooMany(t *testing.T) {
	for _, n := range []int{65, 66, 100, 200, 257, 1000} {
		for _, w := range []api.Word{
			{Kind: api.Roster, Cards: filled(n, func(i int) api.Card { return api.Card{Who: min(i+1, donors)} })},
			{Kind: api.Hello, From: 1, Cards: filled(n, func(int) api.Card { return api.Card{Who: 1} })},
			{Kind: api.Parcels, From: 1, Parcels: filled(n, func(i int) api.Parcel { return api.Parcel{From: 1, To: i + 1} })},
			{Kind: api.Bundle, Parcels: filled(n, func(i int) api.Parcel { return api.Parcel{From: i + 1, To: 1} })},
			{Kind: api.Gift, From: 1, Vector: make([]uint32, numbers+n)},
			{Kind: api.Names, Who: filled(n, func(i int) int { return i + 1 })},
			{Kind: api.Opened, From: 1, Openings: filled(n, func(i int) api.Opening { return api.Opening{Who: i + 1} })},
			{Kind: api.Opened, From: 1, Openings: []api.Opening{{Who: 1, Own: true, Values: make([]uint64, n)}}},
			{Kind: api.Bundle, Parcels: []api.Parcel{{From: 1, To: 1, Data: make([]byte, n)}}},
		} {
			checkWrong(t, w)
		}
	}
}

// A count is more than a good word has, and what lies behind it is the rest of a word whose list is empty.
func TestDecodeCountAlone(t *testing.T) {
	for _, n := range []uint32{1, 5, 6, 64, 65, 256, 257, 1 << 31, small} {
		for _, w := range append(plainest(), api.Word{Kind: api.Opened, From: 1, Openings: []api.Opening{{Who: 1, Own: true}}}) {
			fields := plainFields(w)
			for at := 12; at+4 <= len(fields); at += 4 {
				counted := slices.Clone(fields)
				binary.LittleEndian.PutUint32(counted[at:], n)
				checkFields(t, counted)
				if w.Kind != api.Hello && w.Kind != api.Opened {
					checkNoWord(t, sealed(counted))
				}
			}
		}
	}
}

// Counts near 2^32 take no room that goes with them.
func TestDecodeTakesLittle(t *testing.T) {
	var before, after runtime.MemStats
	for _, w := range slices.Concat(plainest(), between()) {
		fields := plainFields(w)
		for at := 12; at+4 <= len(fields); at++ {
			bent := slices.Clone(fields)
			binary.LittleEndian.PutUint32(bent[at:], small-3)
			b := sealed(bent)
			runtime.ReadMemStats(&before)
			words.Decode(b)
			runtime.ReadMemStats(&after)
			if n := after.TotalAlloc - before.TotalAlloc; n > 1<<20 {
				t.Fatalf("%d bytes of memory for %x", n, b)
			}
		}
	}
}

func TestDecodeMark(t *testing.T) {
	for mark := range uint32(300) {
		checkMark(t, mark)
	}
	for bit := range 32 {
		checkMark(t, 1<<bit)
		checkMark(t, 1<<bit+1)
		checkMark(t, 1<<bit-1)
	}
}

func checkMark(t *testing.T, mark uint32) {
	t.Helper()
	for _, own := range []bool{false, true} {
		for _, list := range [][]api.Opening{{{Who: 1, Own: own}}, {{Who: 4, Own: own}, {Who: 6, Values: []uint64{1}}}, {{Who: 4, Own: own, Values: []uint64{5, 6}}, {Who: 6, Own: !own}}} {
			w := api.Word{Kind: api.Opened, From: 1, Openings: list}
			fields := plainFields(w)
			binary.LittleEndian.PutUint32(fields[36:], mark)
			x, e := words.Decode(sealed(fields))
			list[0].Own = mark == 1
			if mark < 2 && (e != api.OK || !plainSame(x, w)) || mark >= 2 && (e != api.ErrForm || !isEmpty(x)) {
				t.Errorf("of mark %d Decode is %+v, %d", mark, x, e)
			}
		}
	}
}

// Drawn fields are read as they plainly lie.
func TestDecodeAny(t *testing.T) {
	d := draws(6)
	for range 20000 {
		fields := plainFields(d.drawnWord())
		for range 1 + d.below(3) {
			at := d.below(len(fields))
			switch d.below(5) {
			case 0:
				fields[at] ^= 1 << d.below(8)
			case 1:
				fields[at] = byte(d.below(4))
			case 2:
				fields = slices.Delete(fields, at, min(len(fields), at+1+d.below(8)))
			case 3:
				fields = slices.Insert(fields, at, d.bytes(d.below(5))...)
			case 4:
				fields = append(fields, fields[at:]...)
			}
			if len(fields) == 0 {
				break
			}
		}
		checkFields(t, fields)
	}
	for range 20000 {
		fields := filled(32+d.below(60), func(i int) byte { return byte(d.below(4)) * byte(d.below(2)) * byte(d.below(2)) })
		for i := range fields {
			if i%4 != 0 {
				fields[i] = 0
			}
		}
		checkFields(t, fields)
	}
	for range 2000 {
		checkNoWord(t, d.bytes(d.below(200)))
	}
}

// mixed has something in each part; Same asks nobody whether a word is good.
func mixed() api.Word {
	return api.Word{
		Kind: 3, From: 4, Why: 5,
		Cards:    []api.Card{{Who: 6, Lock: 7, Key: 8}, {Who: 9, Lock: 10, Key: 11}},
		Parcels:  []api.Parcel{{From: 12, To: 13, Data: []byte{14, 15}}, {From: 16, To: 17, Data: []byte{18}}},
		Vector:   []uint32{19, 20},
		Who:      []int{21, 22},
		Openings: []api.Opening{{Who: 23, Own: true, Values: []uint64{24, 25}}, {Who: 26, Values: []uint64{27}}},
	}
}

func checkSame(t *testing.T, a, b api.Word, want bool) {
	t.Helper()
	if words.Same(a, b) != want || words.Same(b, a) != want {
		t.Errorf("Same is not %v of %+v and %+v", want, a, b)
	}
}

func TestSameEach(t *testing.T) {
	checkSame(t, mixed(), mixed(), true)
	checkSame(t, mixed(), api.Word{}, false)
	for i, change := range []func(w *api.Word){
		func(w *api.Word) { w.Kind++ }, func(w *api.Word) { w.Kind = -3 }, func(w *api.Word) { w.Kind += 1 << 32 },
		func(w *api.Word) { w.From++ }, func(w *api.Word) { w.From = least }, func(w *api.Word) { w.From += 1 << 40 },
		func(w *api.Word) { w.Why++ }, func(w *api.Word) { w.Why = 0 }, func(w *api.Word) { w.Why -= 1 << 33 },
		func(w *api.Word) { w.Kind, w.From = w.From, w.Kind },
		func(w *api.Word) { w.Cards = nil }, func(w *api.Word) { w.Cards = w.Cards[:1] }, func(w *api.Word) { w.Cards = w.Cards[1:] },
		func(w *api.Word) { w.Cards = append(w.Cards, api.Card{}) }, func(w *api.Word) { slices.Reverse(w.Cards) },
		func(w *api.Word) { w.Cards[0].Who++ }, func(w *api.Word) { w.Cards[1].Who++ },
		func(w *api.Word) { w.Cards[0].Lock++ }, func(w *api.Word) { w.Cards[1].Lock |= 1 << 63 },
		func(w *api.Word) { w.Cards[0].Key++ }, func(w *api.Word) { w.Cards[1].Key |= 1 << 40 },
		func(w *api.Word) { w.Cards[0].Lock, w.Cards[0].Key = w.Cards[0].Key, w.Cards[0].Lock },
		func(w *api.Word) { w.Parcels = nil }, func(w *api.Word) { w.Parcels = w.Parcels[:1] }, func(w *api.Word) { w.Parcels = w.Parcels[1:] },
		func(w *api.Word) { w.Parcels = append(w.Parcels, api.Parcel{}) }, func(w *api.Word) { slices.Reverse(w.Parcels) },
		func(w *api.Word) { w.Parcels[0].From++ }, func(w *api.Word) { w.Parcels[1].From++ },
		func(w *api.Word) { w.Parcels[0].To++ }, func(w *api.Word) { w.Parcels[1].To-- },
		func(w *api.Word) { w.Parcels[0].From, w.Parcels[0].To = 13, 12 },
		func(w *api.Word) { w.Parcels[0].Data = nil }, func(w *api.Word) { w.Parcels[1].Data = nil },
		func(w *api.Word) { w.Parcels[0].Data[0]++ }, func(w *api.Word) { w.Parcels[0].Data[1]++ }, func(w *api.Word) { w.Parcels[1].Data[0] = 0 },
		func(w *api.Word) { w.Parcels[0].Data = w.Parcels[0].Data[:1] }, func(w *api.Word) { w.Parcels[1].Data = []byte{18, 0} },
		func(w *api.Word) { w.Parcels[0].Data, w.Parcels[1].Data = w.Parcels[1].Data, w.Parcels[0].Data },
		func(w *api.Word) { w.Vector = nil }, func(w *api.Word) { w.Vector = w.Vector[:1] }, func(w *api.Word) { w.Vector = append(w.Vector, 0) },
		func(w *api.Word) { w.Vector[0]++ }, func(w *api.Word) { w.Vector[1] |= 1 << 31 }, func(w *api.Word) { slices.Reverse(w.Vector) },
		func(w *api.Word) { w.Who = nil }, func(w *api.Word) { w.Who = w.Who[:1] }, func(w *api.Word) { w.Who = append(w.Who, 0) },
		func(w *api.Word) { w.Who[0]++ }, func(w *api.Word) { w.Who[1] += 1 << 32 }, func(w *api.Word) { slices.Reverse(w.Who) },
		func(w *api.Word) { w.Openings = nil }, func(w *api.Word) { w.Openings = w.Openings[:1] }, func(w *api.Word) { w.Openings = w.Openings[1:] },
		func(w *api.Word) { w.Openings = append(w.Openings, api.Opening{}) }, func(w *api.Word) { slices.Reverse(w.Openings) },
		func(w *api.Word) { w.Openings[0].Who++ }, func(w *api.Word) { w.Openings[1].Who++ },
		func(w *api.Word) { w.Openings[0].Own = false }, func(w *api.Word) { w.Openings[1].Own = true },
		func(w *api.Word) { w.Openings[0].Values = nil }, func(w *api.Word) { w.Openings[1].Values = nil },
		func(w *api.Word) { w.Openings[0].Values[0]++ }, func(w *api.Word) { w.Openings[0].Values[1]++ }, func(w *api.Word) { w.Openings[1].Values[0] |= 1 << 63 },
		func(w *api.Word) { w.Openings[0].Values = w.Openings[0].Values[:1] }, func(w *api.Word) { w.Openings[1].Values = []uint64{27, 0} },
		func(w *api.Word) {
			w.Openings[0].Values, w.Openings[1].Values = w.Openings[1].Values, w.Openings[0].Values
		},
	} {
		w := mixed()
		change(&w)
		if plainSame(w, mixed()) {
			t.Fatalf("change %d changes nothing", i)
		}
		checkSame(t, w, mixed(), false)
		checkSame(t, w, w, true)
		checkSame(t, w, copied(w), true)
	}
}

func TestSameEmpty(t *testing.T) {
	blank := mixed()
	blank.Parcels[0].Data, blank.Parcels[1].Data = nil, nil
	blank.Openings[0].Values, blank.Openings[1].Values = nil, nil
	for _, w := range append(allGood(), api.Word{}, api.Word{Kind: -1, From: greatest, Why: least}, mixed(), blank) {
		checkSame(t, w, w, true)
		checkSame(t, w, emptied(w, 0), true)
		checkSame(t, w, emptied(w, 9), true)
		checkSame(t, emptied(w, 9), emptied(w, 0), true)
	}
	// One list at a time.
	for _, w := range []api.Word{
		{Cards: []api.Card{}}, {Parcels: []api.Parcel{}}, {Vector: []uint32{}}, {Who: []int{}}, {Openings: []api.Opening{}},
		{Cards: make([]api.Card, 0, 3)}, {Parcels: make([]api.Parcel, 0, 3)}, {Vector: make([]uint32, 0, 3)}, {Who: make([]int, 0, 3)}, {Openings: make([]api.Opening, 0, 3)},
	} {
		checkSame(t, w, api.Word{}, true)
		checkSame(t, w, emptied(w, 0), true)
	}
	for _, w := range oneThing() {
		checkSame(t, w, api.Word{}, false)
	}
}

func TestSameOfEachTwo(t *testing.T) {
	all := allGood()
	for i, a := range all {
		for k, b := range all {
			checkSame(t, a, b, i == k)
		}
	}
}

// roomy has spare room in each list, with something in it.
func roomy(w api.Word) api.Word {
	w = copied(w)
	for i := range w.Parcels {
		w.Parcels[i].Data = spare(w.Parcels[i].Data, 0xA1, 0xA2)
	}
	for i := range w.Openings {
		w.Openings[i].Values = spare(w.Openings[i].Values, 0xA3, 0xA4)
	}
	w.Cards = spare(w.Cards, api.Card{Who: 100, Lock: 101, Key: 102})
	w.Parcels = spare(w.Parcels, api.Parcel{From: 103, To: 104, Data: []byte("spare")})
	w.Vector = spare(w.Vector, 105, 106)
	w.Who = spare(w.Who, 107, 108)
	w.Openings = spare(w.Openings, api.Opening{Who: 109, Own: true, Values: []uint64{110}})
	return w
}

func spare[T any](list []T, more ...T) []T {
	return slices.Concat(list, more)[:len(list)]
}

// whole has all the room of a word's lists in sight.
func whole(w api.Word) api.Word {
	w.Cards = w.Cards[:cap(w.Cards)]
	w.Parcels = slices.Clone(w.Parcels[:cap(w.Parcels)])
	for i, p := range w.Parcels {
		w.Parcels[i].Data = p.Data[:cap(p.Data)]
	}
	w.Vector = w.Vector[:cap(w.Vector)]
	w.Who = w.Who[:cap(w.Who)]
	w.Openings = slices.Clone(w.Openings[:cap(w.Openings)])
	for i, o := range w.Openings {
		w.Openings[i].Values = o.Values[:cap(o.Values)]
	}
	return w
}

// No call changes what is handed in, nor the room behind it.
func TestHandedInStays(t *testing.T) {
	d := draws(7)
	list := append(allGood(), api.Word{}, mixed(), api.Word{Kind: api.Roster, Cards: []api.Card{{Who: 2}, {Who: 1}}}, api.Word{Kind: api.Names, Who: []int{3, 2, 2, 65}},
		api.Word{Kind: api.Opened, From: 1, Openings: []api.Opening{{Who: 2}, {Who: 1, Values: make([]uint64, 9)}}})
	for _, x := range list {
		w, other := roomy(x), roomy(d.drawnWord())
		was, otherWas := copied(whole(w)), copied(whole(other))
		words.Good(w)
		b, _ := words.Encode(w)
		scribble(b)
		words.Same(w, other)
		words.Same(other, w)
		words.Same(w, w)
		if !plainSame(whole(w), was) || !plainSame(whole(other), otherWas) {
			t.Errorf("%+v is now %+v", was, whole(w))
		}
		bytesIn := spare(plain(x), 1, 2, 3, 4, 5, 6, 7, 8, 9)
		bytesWere := slices.Clone(bytesIn[:cap(bytesIn)])
		read, _ := words.Decode(bytesIn)
		scribbleWord(read)
		if !bytes.Equal(bytesIn[:cap(bytesIn)], bytesWere) {
			t.Errorf("%x is now %x", bytesWere, bytesIn[:cap(bytesIn)])
		}
		bytesIn[3] ^= 1
		bytesWere[3] ^= 1
		words.Decode(bytesIn)
		if !bytes.Equal(bytesIn[:cap(bytesIn)], bytesWere) {
			t.Errorf("%x is now %x", bytesWere, bytesIn[:cap(bytesIn)])
		}
	}
}

// scribble writes over all the room of a list, and of what it becomes when it grows.
func scribble(b []byte) {
	for i := range b[:cap(b)] {
		b[:cap(b)][i] ^= 0xA5
	}
	_ = append(b, 0xEE, 0xEE, 0xEE, 0xEE, 0xEE, 0xEE, 0xEE, 0xEE, 0xEE)
}

// lists are a word's lists, each as a function that writes over all its room. What they hold is not theirs.
func lists(w api.Word) []func() {
	var all []func()
	for _, p := range w.Parcels {
		all = append(all, func() { scribble(p.Data) })
	}
	for _, o := range w.Openings {
		all = append(all, func() {
			for i := range o.Values[:cap(o.Values)] {
				o.Values[:cap(o.Values)][i] ^= 0xA5A5A5A5A5A5A5A5
			}
			_ = append(o.Values, 1, 2, 3)
		})
	}
	return append(all,
		func() {
			for i := range w.Cards[:cap(w.Cards)] {
				w.Cards[:cap(w.Cards)][i] = api.Card{Who: -1, Lock: 1234, Key: 5678}
			}
		},
		func() {
			for i := range w.Vector[:cap(w.Vector)] {
				w.Vector[:cap(w.Vector)][i] ^= 0xA5A5A5A5
			}
		},
		func() {
			for i := range w.Who[:cap(w.Who)] {
				w.Who[:cap(w.Who)][i] ^= 0xA5A5A5A5
			}
		},
		func() {
			for i := range w.Parcels[:cap(w.Parcels)] {
				w.Parcels[:cap(w.Parcels)][i] = api.Parcel{From: -1, To: -2, Data: []byte("written over")}
			}
		},
		func() {
			for i := range w.Openings[:cap(w.Openings)] {
				w.Openings[:cap(w.Openings)][i] = api.Opening{Who: -1, Values: []uint64{1234}}
			}
		})
}

func scribbleWord(w api.Word) {
	for _, write := range lists(w) {
		write()
	}
}

// Bytes that change behind Decode change nothing of the word, nor does one word that was read change another.
func TestReadIsApart(t *testing.T) {
	for _, x := range allGood() {
		b := plain(x)
		one, _ := words.Decode(b)
		two, _ := words.Decode(b)
		scribble(b)
		if !plainSame(one, x) || !plainSame(two, x) {
			t.Errorf("%+v changes with its bytes", x)
		}
		scribbleWord(one)
		if !plainSame(two, x) {
			t.Errorf("%+v changes with another answer", x)
		}
		if three, e := words.Decode(plain(x)); e != api.OK || !plainSame(three, x) {
			t.Errorf("%+v is read as %+v, %d", x, three, e)
		}
	}
}

// Of the lists of a word, none changes with another one that is written over, room and all.
func TestListsAreApart(t *testing.T) {
	for _, x := range allGood() {
		for i := range len(x.Parcels) {
			w, _ := words.Decode(plain(x))
			lists(w)[i]()
			for k := range x.Parcels {
				if k != i && !bytes.Equal(w.Parcels[k].Data, x.Parcels[k].Data) {
					t.Errorf("Data %d changes with Data %d", k, i)
				}
			}
			if len(x.Parcels[i].Data) > 0 && bytes.Equal(w.Parcels[i].Data, x.Parcels[i].Data) {
				t.Errorf("Data %d is not written over", i)
			}
		}
		for i := range len(x.Openings) {
			w, _ := words.Decode(plain(x))
			lists(w)[i]()
			for k := range x.Openings {
				if k != i && !slices.Equal(w.Openings[k].Values, x.Openings[k].Values) {
					t.Errorf("Values %d changes with Values %d", k, i)
				}
			}
			if len(x.Openings[i].Values) > 0 && slices.Equal(w.Openings[i].Values, x.Openings[i].Values) {
				t.Errorf("Values %d is not written over", i)
			}
		}
	}
}

func TestWrittenIsApart(t *testing.T) {
	for _, x := range allGood() {
		w := roomy(x)
		one, _ := words.Encode(w)
		two, _ := words.Encode(w)
		scribble(one)
		if !bytes.Equal(two, plain(x)) {
			t.Errorf("bytes of %+v change with another answer", x)
		}
		scribbleWord(w)
		if !bytes.Equal(two, plain(x)) {
			t.Errorf("bytes of %+v change with the word", x)
		}
		if three, e := words.Encode(x); e != api.OK || !bytes.Equal(three, plain(x)) {
			t.Errorf("%+v is written as %x, %d", x, three, e)
		}
	}
}

// What was asked before changes no answer.
func TestNothingIsKept(t *testing.T) {
	opened := between()[6]
	bent := plainFields(opened)
	binary.LittleEndian.PutUint32(bent[36:], 2)
	tooMany := plainFields(opened)
	binary.LittleEndian.PutUint32(tooMany[12:], small)
	others := []func(){
		func() { words.Decode(nil) },
		func() { words.Decode(sealed(bent)) },
		func() { words.Decode(sealed(tooMany)) },
		func() { words.Decode(plain(fullest()[2])) },
		func() { words.Decode(make([]byte, api.MaxBytes+5)) },
		func() { words.Encode(api.Word{}) },
		func() { words.Encode(mixed()) },
		func() { words.Encode(fullest()[6]) },
		func() { words.Good(mixed()) },
		func() { words.Good(fullest()[3]) },
		func() { words.Same(mixed(), fullest()[4]) },
	}
	for _, w := range allGood() {
		for _, other := range others {
			other()
			checkGood(t, w)
			other()
			checkWrong(t, api.Word{Kind: w.Kind, From: 65})
			other()
			checkNoWord(t, sealed(bent))
			other()
			checkNoWord(t, sealed(tooMany))
			other()
			checkSame(t, w, mixed(), false)
		}
	}
}
