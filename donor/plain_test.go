package donor_test

import (
	"bytes"
	"math/big"
	"slices"
	"testing"

	"offertory/api"
	"offertory/donor"
	"offertory/mask"
	"offertory/seal"
	"offertory/tally"
	"offertory/words"
)

// draws are numbers that look drawn; each call has another.
type draws uint64

func (d *draws) next() uint64 {
	*d = *d*6364136223846793005 + 1442695040888963407
	return uint64(*d) ^ uint64(*d)>>29
}

func (d *draws) below(n int) int { return int(d.next() >> 8 % uint64(n)) }

func (d *draws) secret() uint64 { return d.next()%(api.P-2) + 1 }

func (d *draws) seed() api.Seed {
	var s api.Seed
	for i := range s {
		s[i] = byte(d.next() >> 40)
	}
	return s
}

func (d *draws) draw(enough int) api.Draw {
	draw := api.Draw{Lock: d.secret(), Key: d.secret(), Own: d.seed()}
	for range 6 * (enough - 1) {
		draw.Coeffs = append(draw.Coeffs, d.next()%api.P)
	}
	return draw
}

func oneOf[T any](d *draws, list []T) T { return list[d.below(len(list))] }

func mixed[T any](d *draws, list []T) []T {
	list = slices.Clone(list)
	for i := range list {
		j := i + d.below(len(list)-i)
		list[i], list[j] = list[j], list[i]
	}
	return list
}

// some are a few of a list, in its order.
func some[T any](d *draws, list []T) []T {
	var few []T
	for _, x := range list {
		if d.below(3) > 0 {
			few = append(few, x)
		}
	}
	return few
}

// upTo is the numbers from 1 to n.
func upTo(n int) []int {
	var list []int
	for i := range n {
		list = append(list, i+1)
	}
	return list
}

func without(list []int, gone ...int) []int {
	return slices.DeleteFunc(slices.Clone(list), func(n int) bool { return slices.Contains(gone, n) })
}

func with(list []int, more ...int) []int {
	list = append(without(list, more...), more...)
	slices.Sort(list)
	return list
}

func large(n uint64) *big.Int { return new(big.Int).SetUint64(n) }

// public is a power that is worked out without packages prime and group.
func public(secret uint64) uint64 {
	return new(big.Int).Exp(large(37), large(secret), large(1<<61-1)).Uint64()
}

// share is a polynomial's value at a place, worked out without packages poly and share.
func share(secret uint64, coeffs []uint64, at int) uint64 {
	sum, power := large(secret), large(1)
	for _, c := range coeffs {
		power.Mul(power, big.NewInt(int64(at)))
		sum.Add(sum, new(big.Int).Mul(large(c), power))
	}
	return sum.Mod(sum, large(1<<61-1)).Uint64()
}

// limbs are a seed's, worked out without package limb.
func limbs(s api.Seed) []uint64 {
	highFirst := slices.Clone(s[:])
	slices.Reverse(highFirst)
	n := new(big.Int).SetBytes(highFirst)
	var list []uint64
	for i := range 5 {
		part := new(big.Int).Rsh(n, uint(56*i))
		list = append(list, part.Mod(part, large(1<<56)).Uint64())
	}
	return list
}

// say is a word's bytes; what is told to a donor here has to be a good word.
func say(t *testing.T, w api.Word) []byte {
	t.Helper()
	b, e := words.Encode(w)
	if e != api.OK {
		t.Fatalf("no good word: %v", w)
	}
	return b
}

func read(t *testing.T, b []byte) api.Word {
	t.Helper()
	w, e := words.Decode(b)
	if e != api.OK {
		t.Fatalf("no word: %x", b)
	}
	return w
}

// world is a setup with what all of its donors have and draw.
type world struct {
	t       *testing.T
	setup   api.Setup
	samples [][]int
	draws   []api.Draw
	cards   []api.Card
}

func newWorld(t *testing.T, donors, enough int, d draws) *world {
	t.Helper()
	w := &world{t: t, setup: api.Setup{
		Donors: donors, Enough: enough, Wait: 5,
		Plan: api.Plan{Low: -4, High: 11, Most: 6, Edges: []int{0, 5}},
	}}
	for n := range donors {
		var samples []int
		for range d.below(7) {
			samples = append(samples, d.below(30)-10)
		}
		w.samples = append(w.samples, samples)
		w.take(d.draw(enough), n+1)
	}
	return w
}

// take has a donor draw something: the next one, or one that drew something else.
func (w *world) take(draw api.Draw, who int) {
	if who > len(w.draws) {
		w.draws, w.cards = append(w.draws, api.Draw{}), append(w.cards, api.Card{})
	}
	w.draws[who-1] = draw
	w.cards[who-1] = api.Card{Who: who, Lock: public(draw.Lock), Key: public(draw.Key)}
}

func (w *world) everyone() []int { return upTo(w.setup.Donors) }

// shares are what from cuts for to: of its Key, then of its seed's limbs.
func (w *world) shares(from, to int) []uint64 {
	draw, each := w.draws[from-1], w.setup.Enough-1
	var list []uint64
	for i, secret := range append([]uint64{draw.Key}, limbs(draw.Own)...) {
		list = append(list, share(secret, draw.Coeffs[i*each:(i+1)*each], to))
	}
	return list
}

func (w *world) sealed(from, to int, values []uint64) api.Parcel {
	w.t.Helper()
	data, e := seal.Lock(w.draws[from-1].Lock, w.cards[to-1].Lock, from, to, values)
	if e != api.OK {
		w.t.Fatal(e)
	}
	return api.Parcel{From: from, To: to, Data: data}
}

func (w *world) parcel(from, to int) api.Parcel {
	w.t.Helper()
	return w.sealed(from, to, w.shares(from, to))
}

func (w *world) cardsOf(list []int) []api.Card {
	var cards []api.Card
	for _, who := range list {
		cards = append(cards, w.cards[who-1])
	}
	return cards
}

func (w *world) parcels(to int, from []int) []api.Parcel {
	w.t.Helper()
	var list []api.Parcel
	for _, who := range from {
		list = append(list, w.parcel(who, to))
	}
	return list
}

func (w *world) roster(who ...int) []byte {
	w.t.Helper()
	return say(w.t, api.Word{Kind: api.Roster, Cards: w.cardsOf(who)})
}

func (w *world) bundle(to int, from ...int) []byte {
	w.t.Helper()
	return say(w.t, api.Word{Kind: api.Bundle, Parcels: w.parcels(to, from)})
}

func (w *world) names(who ...int) []byte {
	w.t.Helper()
	return say(w.t, api.Word{Kind: api.Names, Who: who})
}

// plain is a donor that keeps what it answered to, and works out each answer from all that it heard.
type plain struct {
	*world
	who    int
	vector []uint32
	hailed bool
	heard  []api.Word
	last   []byte
	why    api.Errno
}

func (p *plain) phase() int {
	if !p.hailed {
		return 0
	}
	return 1 + len(p.heard)
}

func (p *plain) card() api.Card { return p.cards[p.who-1] }

func (p *plain) draw() api.Draw { return p.draws[p.who-1] }

func (p *plain) say(w api.Word) []byte {
	p.t.Helper()
	w.From = p.who
	return say(p.t, w)
}

func (p *plain) hello() []byte {
	p.t.Helper()
	if p.hailed {
		return nil
	}
	p.hailed = true
	return p.say(api.Word{Kind: api.Hello, Cards: []api.Card{p.card()}})
}

func (p *plain) hear(b []byte) []byte {
	p.t.Helper()
	w, e := words.Decode(b)
	if e != api.OK || p.why != api.OK {
		return nil
	}
	if len(p.heard) > 0 && bytes.Equal(b, p.last) {
		return p.answer()
	}
	if p.phase() == 0 || p.phase() == 4 || w.Kind != []int{api.Roster, api.Bundle, api.Names}[len(p.heard)] {
		return nil
	}
	if p.why = p.wrong(w); p.why != api.OK {
		return p.say(api.Word{Kind: api.Refused, Why: p.why})
	}
	p.heard, p.last = append(p.heard, w), bytes.Clone(b)
	return p.answer()
}

func (p *plain) wrong(w api.Word) api.Errno {
	switch w.Kind {
	case api.Roster:
		return p.wrongRoster(w.Cards)
	case api.Bundle:
		return p.wrongBundle(w.Parcels)
	}
	return p.wrongNames(w.Who)
}

func (p *plain) answer() []byte {
	p.t.Helper()
	switch len(p.heard) {
	case 1:
		return p.say(api.Word{Kind: api.Parcels, Parcels: p.tellParcels()})
	case 2:
		return p.say(api.Word{Kind: api.Gift, Vector: p.tellGift()})
	}
	return p.say(api.Word{Kind: api.Opened, Openings: p.tellOpened()})
}

func (p *plain) wrongRoster(list []api.Card) api.Errno {
	mine, above, bad := 0, 0, 0
	for _, card := range list {
		if card == p.card() {
			mine++
		}
		if card.Who > p.setup.Donors {
			above++
		}
		if min(card.Lock, card.Key) < 2 || max(card.Lock, card.Key) > 1<<61-3 {
			bad++
		}
	}
	switch {
	case len(list) < p.setup.Enough:
		return api.ErrFew
	case mine == 0 || above > 0:
		return api.ErrSet
	case bad > 0:
		return api.ErrKey
	}
	return api.OK
}

func (p *plain) tellParcels() []api.Parcel {
	p.t.Helper()
	var list []api.Parcel
	for _, card := range p.heard[0].Cards {
		if card.Who != p.who {
			data, e := seal.Lock(p.draw().Lock, card.Lock, p.who, card.Who, p.shares(p.who, card.Who))
			if e != api.OK {
				p.t.Fatal(e)
			}
			list = append(list, api.Parcel{From: p.who, To: card.Who, Data: data})
		}
	}
	return list
}

// of is the Card of another donor, as the Roster has it.
func (p *plain) of(who int) (api.Card, bool) {
	for _, card := range p.heard[0].Cards {
		if card.Who == who && who != p.who {
			return card, true
		}
	}
	return api.Card{}, false
}

func (p *plain) open(parcel api.Parcel) ([]uint64, bool) {
	card, _ := p.of(parcel.From)
	values, e := seal.Open(p.draw().Lock, card.Lock, parcel.From, p.who, parcel.Data)
	return values, e == api.OK && len(values) == 6
}

func (p *plain) wrongBundle(list []api.Parcel) api.Errno {
	strange, shut := 0, 0
	for _, parcel := range list {
		if _, there := p.of(parcel.From); !there || parcel.To != p.who {
			strange++
		} else if _, ok := p.open(parcel); !ok {
			shut++
		}
	}
	switch {
	case strange > 0:
		return api.ErrSet
	case 1+len(list) < p.setup.Enough:
		return api.ErrFew
	case shut > 0:
		return api.ErrForm
	}
	return api.OK
}

func (p *plain) tellGift() []uint32 {
	p.t.Helper()
	var others []api.Card
	for _, parcel := range p.heard[1].Parcels {
		card, _ := p.of(parcel.From)
		others = append(others, card)
	}
	gift, e := mask.Hide(p.vector, p.who, p.draw().Own, p.draw().Key, others)
	if e != api.OK {
		p.t.Fatal(e)
	}
	return gift
}

// held is what it has shares of: those of itself, and of who sent it Parcels, by number.
func (p *plain) held() [65][]uint64 {
	var held [65][]uint64
	for _, parcel := range p.heard[1].Parcels {
		held[parcel.From], _ = p.open(parcel)
	}
	held[p.who] = p.shares(p.who, p.who)
	return held
}

func (p *plain) wrongNames(list []int) api.Errno {
	if len(list) < p.setup.Enough {
		return api.ErrFew
	}
	held := p.held()
	for _, who := range list {
		if held[who] == nil {
			return api.ErrSet
		}
	}
	if !slices.Contains(list, p.who) {
		return api.ErrSet
	}
	return api.OK
}

func (p *plain) tellOpened() []api.Opening {
	var list []api.Opening
	for who, values := range p.held() {
		if values == nil {
			continue
		}
		if slices.Contains(p.heard[2].Who, who) {
			list = append(list, api.Opening{Who: who, Own: true, Values: values[1:]})
		} else {
			list = append(list, api.Opening{Who: who, Values: values[:1]})
		}
	}
	return list
}

// pair is a donor and a plain one, which are told the same and have to answer the same; behind each call Phase, Why and Vector do, too.
type pair struct {
	*plain
	donor *donor.Donor
}

func (w *world) pair(who int) *pair {
	w.t.Helper()
	d, e := donor.New(w.setup, who, w.samples[who-1], w.draws[who-1])
	if e != api.OK {
		w.t.Fatalf("New of donor %d is %d", who, e)
	}
	vector, e := tally.Encode(w.setup.Plan, w.samples[who-1])
	if e != api.OK {
		w.t.Fatal(e)
	}
	p := &pair{plain: &plain{world: w, who: who, vector: vector}, donor: d}
	p.check()
	return p
}

func (p *pair) check() {
	p.t.Helper()
	if got := p.donor.Phase(); got != p.plain.phase() {
		p.t.Fatalf("Phase is %d, not %d", got, p.plain.phase())
	}
	if got := p.donor.Why(); got != p.plain.why {
		p.t.Fatalf("Why is %d, not %d", got, p.plain.why)
	}
	if got := p.donor.Vector(); !slices.Equal(got, p.plain.vector) {
		p.t.Fatalf("Vector is %d, not %d", got, p.plain.vector)
	}
}

func (p *pair) hello() []byte {
	p.t.Helper()
	want, got := p.plain.hello(), p.donor.Hello()
	if !bytes.Equal(got, want) {
		p.t.Fatalf("Hello is %x, not %x", got, want)
	}
	p.check()
	return got
}

func (p *pair) hear(b []byte) []byte {
	p.t.Helper()
	want, got := p.plain.hear(b), p.donor.Hear(b)
	if !bytes.Equal(got, want) {
		p.t.Fatalf("in phase %d, Hear(%x) is %x, not %x", p.plain.phase(), b, got, want)
	}
	p.check()
	return got
}

// hears expects an answer of a kind, and Why of a Refused.
func (p *pair) hears(b []byte, kind int, why api.Errno) api.Word {
	p.t.Helper()
	got := p.hear(b)
	if len(got) == 0 {
		p.t.Fatalf("in phase %d, nothing is answered", p.plain.phase())
	}
	w := read(p.t, got)
	if w.Kind != kind || w.Why != why || w.From != p.who {
		p.t.Fatalf("answered by kind %d with Why %d from %d, not by %d with %d", w.Kind, w.Why, w.From, kind, why)
	}
	return w
}

// passes expects that nothing is answered, and that nothing changes.
func (p *pair) passes(b []byte) {
	p.t.Helper()
	phase, why := p.donor.Phase(), p.donor.Why()
	if got := p.hear(b); len(got) != 0 {
		p.t.Fatalf("in phase %d, %x is answered by %x", phase, b, got)
	}
	if p.donor.Phase() != phase || p.donor.Why() != why {
		p.t.Fatalf("in phase %d, %x changes Phase or Why to %d, %d", phase, b, p.donor.Phase(), p.donor.Why())
	}
}

// to brings it to a phase, by words of all donors.
func (p *pair) to(phase int) *pair {
	p.t.Helper()
	others := without(p.everyone(), p.who)
	for p.plain.phase() < phase {
		switch p.plain.phase() {
		case 0:
			p.hello()
		case 1:
			p.hears(p.roster(p.everyone()...), api.Parcels, api.OK)
		case 2:
			p.hears(p.bundle(p.who, others...), api.Gift, api.OK)
		case 3:
			p.hears(p.names(p.everyone()...), api.Opened, api.OK)
		}
	}
	return p
}
