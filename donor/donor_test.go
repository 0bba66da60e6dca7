package donor_test

import (
	"bytes"
	"encoding/hex"
	"math"
	"slices"
	"testing"

	"offertory/api"
	"offertory/donor"
	"offertory/limb"
	"offertory/mask"
	"offertory/ring"
	"offertory/seal"
	joined "offertory/share"
	"offertory/tally"
	"offertory/words"
)

const half = (api.P - 1) / 2 // the secret whose public number is P - 1, which is not Good

// given is what New is given.
type given struct {
	setup   api.Setup
	who     int
	samples []int
	draw    api.Draw
}

func give(donors, enough int) given {
	d := draws(donors*100 + enough)
	return given{
		setup: api.Setup{
			Donors: donors, Enough: enough, Wait: 5,
			Plan: api.Plan{Low: -4, High: 11, Most: 6, Edges: []int{0, 5}},
		},
		who: 1, samples: []int{-9, 3, 40}, draw: d.draw(enough),
	}
}

func (g given) make() (*donor.Donor, api.Errno) {
	return donor.New(g.setup, g.who, g.samples, g.draw)
}

func (g given) expect(t *testing.T, name string, want api.Errno) {
	t.Helper()
	d, e := g.make()
	if e != want {
		t.Errorf("%s: New is %d, not %d", name, e, want)
	}
	if (d == nil) != (want != api.OK) {
		t.Errorf("%s: a donor beside %d: %t", name, e, d != nil)
	}
	if d != nil && (d.Phase() != 0 || d.Why() != api.OK) {
		t.Errorf("%s: a new donor is in phase %d, with %d", name, d.Phase(), d.Why())
	}
}

// beyond are numbers outside of 1 to most; the lowest bits of some would be fine.
func beyond(most int) []int {
	return []int{
		math.MinInt, math.MinInt + 1, -1<<32 + 1, -1 << 32, -most, -2, -1, 0,
		most + 1, most + 2, 2 * most, most + 256, 1 << 16, 1<<16 + 1, 1 << 32, 1<<32 + 1, 1<<48 + 1, math.MaxInt - 1, math.MaxInt,
	}
}

func TestSetupsNumbers(t *testing.T) {
	for _, n := range beyond(api.MaxDonors) {
		g := give(5, 1)
		g.setup.Donors = n
		g.expect(t, "Donors", api.ErrArg)
	}
	for _, n := range beyond(5) {
		g := give(5, 2)
		g.setup.Enough = n
		g.expect(t, "Enough", api.ErrArg)
		g = give(5, 2)
		g.who = n
		g.expect(t, "who", api.ErrArg)
	}
	for _, n := range beyond(api.MaxWait) {
		g := give(5, 2)
		g.setup.Wait = n
		g.expect(t, "Wait", api.ErrArg)
	}
	for n := range api.MaxWait {
		g := give(1, 1)
		g.setup.Wait = n + 1
		g.expect(t, "Wait", api.OK)
	}
}

func TestSetupsTogether(t *testing.T) {
	for donors := 1; donors <= api.MaxDonors; donors++ {
		for _, enough := range []int{1, 2, donors / 2, donors - 1, donors, donors + 1} {
			if enough < 1 {
				continue
			}
			g := give(donors, enough)
			want := api.OK
			if enough > donors {
				want = api.ErrArg
			}
			g.expect(t, "Enough", want)
			for _, who := range []int{0, 1, donors, donors + 1} {
				g.who = who
				if who < 1 || who > donors {
					g.expect(t, "who", api.ErrArg)
				} else {
					g.expect(t, "who", want)
				}
			}
		}
	}
}

func TestPlansErrors(t *testing.T) {
	for i, c := range []struct {
		plan    api.Plan
		samples int
		want    api.Errno
	}{
		{api.Plan{Low: 1, High: 0, Most: 1}, 0, api.ErrRange},
		{api.Plan{Low: 0, High: 1 << 40, Most: 1}, 0, api.ErrRange},
		{api.Plan{Low: -1<<40 - 1, High: -1 << 40, Most: 1}, 0, api.ErrRange},
		{api.Plan{Low: 1 << 40, High: 1<<40 + 1, Most: 1}, 0, api.ErrRange},
		{api.Plan{Low: math.MinInt, High: math.MaxInt, Most: 1}, 0, api.ErrRange},
		{api.Plan{Low: 0, High: 1, Most: 0}, 0, api.ErrCap},
		{api.Plan{Low: 0, High: 1, Most: 65537}, 0, api.ErrCap},
		{api.Plan{Low: 0, High: 1, Most: 1, Edges: []int{3, 3}}, 0, api.ErrEdges},
		{api.Plan{Low: 0, High: 1, Most: 1, Edges: upTo(65)}, 0, api.ErrEdges},
		{api.Plan{Low: 0, High: 1, Most: 1, Edges: []int{3, 3}}, 9, api.ErrEdges},
		{api.Plan{Low: 0, High: 1, Most: 4}, 5, api.ErrCap},
		{api.Plan{Low: 0, High: 1, Most: 4}, 4, api.OK},
		{api.Plan{Low: 0, High: 1, Most: 4}, 0, api.OK},
		{api.Plan{Low: 0, High: 1<<40 - 1, Most: 65536, Edges: upTo(64)}, 65536, api.OK},
		{api.Plan{}, 0, api.ErrCap},
	} {
		g := give(3, 2)
		g.setup.Plan, g.samples = c.plan, make([]int, c.samples)
		g.expect(t, "plan", c.want)
		if _, e := tally.Encode(c.plan, g.samples); e != c.want {
			t.Errorf("%d: tally.Encode is %d, not %d", i, e, c.want)
		}
	}
}

func TestSecrets(t *testing.T) {
	for _, c := range []struct {
		secret uint64
		want   api.Errno
	}{
		{0, api.ErrKey}, {1, api.OK}, {2, api.OK}, {half - 1, api.OK}, {half, api.OK}, {half + 1, api.OK},
		{api.P - 3, api.OK}, {api.P - 2, api.OK}, {api.P - 1, api.ErrKey}, {api.P, api.ErrKey}, {api.P + 1, api.ErrKey},
		{2 * api.P, api.ErrKey}, {1 << 61, api.ErrKey}, {1<<63 + 1, api.ErrKey}, {math.MaxUint64 - 1, api.ErrKey}, {math.MaxUint64, api.ErrKey},
	} {
		g := give(3, 2)
		g.draw.Lock = c.secret
		g.expect(t, "Lock", c.want)
		g = give(3, 2)
		g.draw.Key = c.secret
		g.expect(t, "Key", c.want)
		g.draw.Lock = c.secret
		g.expect(t, "both", c.want)
	}
}

func TestCoeffs(t *testing.T) {
	for enough := 1; enough <= 6; enough++ {
		asked := 6 * (enough - 1)
		for n := range 6*6 + 2 {
			g := give(6, enough)
			g.draw.Coeffs = make([]uint64, n)
			want := api.ErrArg
			if n == asked {
				want = api.OK
			}
			g.expect(t, "Coeffs", want)
		}
		g := give(6, enough)
		if asked == 0 {
			g.draw.Coeffs = nil
			g.expect(t, "no Coeffs", api.OK)
			g.draw.Coeffs = []uint64{}
			g.expect(t, "empty Coeffs", api.OK)
		}
		for at := range asked {
			for _, n := range []uint64{0, 1, api.P - 2, api.P - 1, api.P, api.P + 1, 1 << 62, 1 << 63, math.MaxUint64} {
				want := api.OK
				if n >= api.P {
					want = api.ErrRange
				}
				g := give(6, enough)
				g.draw.Coeffs[at] = n
				g.expect(t, "a Coeff", want)
			}
		}
	}
}

// fault is something wrong in what New is given, or a donor hears, and which error it is.
type fault[T any] struct {
	name string
	of   func(*T)
	want api.Errno
}

// each hands on every set of faults, with the error of the first one of the set (OK of none).
func each[T any](faults []fault[T], act func(set []fault[T], want api.Errno)) {
	for bits := range 1 << len(faults) {
		var set []fault[T]
		for i, f := range faults {
			if bits>>i&1 == 1 {
				set = append(set, f)
			}
		}
		want := api.OK
		if len(set) > 0 {
			want = set[0].want
		}
		act(set, want)
	}
}

func TestWhichErrorOfNew(t *testing.T) {
	faults := []fault[given]{
		{"Donors", func(g *given) { g.setup.Donors = 65 }, api.ErrArg},
		{"Enough", func(g *given) { g.setup.Enough = 0 }, api.ErrArg},
		{"Wait", func(g *given) { g.setup.Wait = 1001 }, api.ErrArg},
		{"who", func(g *given) { g.who = 70 }, api.ErrArg},
		{"plan", func(g *given) { g.setup.Plan.Edges = []int{5, 0} }, api.ErrEdges},
		{"samples", func(g *given) { g.samples = make([]int, 7) }, api.ErrCap},
		{"Lock", func(g *given) { g.draw.Lock = api.P - 1 }, api.ErrKey},
		{"Key", func(g *given) { g.draw.Key = 0 }, api.ErrKey},
		{"a Coeff too many", func(g *given) { g.draw.Coeffs = append(g.draw.Coeffs, 1) }, api.ErrArg},
		{"a Coeff", func(g *given) { g.draw.Coeffs[3] = api.P }, api.ErrRange},
	}
	each(faults, func(set []fault[given], want api.Errno) {
		g, name := give(5, 3), ""
		for _, f := range set {
			f.of(&g)
			name += f.name + ", "
		}
		g.expect(t, name, want)
	})
}

func TestVector(t *testing.T) {
	plans := []api.Plan{
		{Low: 0, High: 0, Most: 1},
		{Low: -4, High: 11, Most: 9, Edges: []int{0, 5}},
		{Low: -1 << 40, High: -1, Most: 65536, Edges: upTo(64)},
	}
	for _, plan := range plans {
		for _, samples := range [][]int{nil, {0}, {math.MinInt, math.MaxInt}, {1, 2, 3, 1, 2, 3, -1, -2, -3}} {
			g := give(3, 2)
			g.setup.Plan, g.samples = plan, samples
			want, e := tally.Encode(plan, samples)
			d, got := g.make()
			if got != e {
				t.Fatalf("New is %d, not %d", got, e)
			}
			if e == api.OK && !slices.Equal(d.Vector(), want) {
				t.Errorf("Vector is %d, not %d", d.Vector(), want)
			}
		}
	}
}

func TestVectorIsTheAskersOwn(t *testing.T) {
	w := newWorld(t, 4, 2, 7)
	for phase := range 5 {
		p := w.pair(3).to(phase)
		for range 2 {
			v := p.donor.Vector()
			for i := range v[:cap(v)] {
				v[:cap(v)][i] = 0xdeadbeef
			}
			p.check()
		}
	}
	p := w.pair(3)
	v := p.donor.Vector()
	clear(v[:cap(v)])
	p.to(4)
}

func TestHello(t *testing.T) {
	d := draws(11)
	for _, c := range []struct{ donors, enough int }{{1, 1}, {2, 1}, {5, 3}, {64, 2}} {
		w := newWorld(t, c.donors, c.enough, d)
		for _, who := range w.everyone() {
			p := w.pair(who)
			hello := read(t, p.hello())
			if !words.Same(hello, api.Word{Kind: api.Hello, From: who, Cards: []api.Card{w.cards[who-1]}}) {
				t.Errorf("Hello is %v", hello)
			}
		}
	}
	w := newWorld(t, 4, 2, d)
	for phase := 1; phase <= 4; phase++ {
		p := w.pair(2).to(phase)
		for range 3 {
			if b := p.hello(); len(b) != 0 {
				t.Errorf("in phase %d, Hello is %x", phase, b)
			}
		}
		p.to(4)
	}
}

// The numbers at the ends: P - 2 and 1 have public numbers, half has one that is not Good.
func TestHelloOfSecretsAtTheirEnds(t *testing.T) {
	for _, secret := range []uint64{1, 2, half - 1, half, half + 1, api.P - 3, api.P - 2} {
		w := newWorld(t, 3, 2, 5)
		draw := w.draws[1]
		draw.Lock = secret
		w.take(draw, 2)
		w.pair(2).hello()
		draw.Lock, draw.Key = draw.Key, secret
		w.take(draw, 2)
		p := w.pair(2)
		p.hello()
		if secret == half {
			p.hears(p.roster(1, 2, 3), api.Refused, api.ErrKey)
		} else {
			p.to(4)
		}
	}
}

// known is what another program made of the document's words: donor 3 of four, of whom three are enough.
const (
	knownHello  = "0100000003000000000000000100000003000000bcb4327e5db0df10cb675c8c44affd0200000000000000000000000000000000c2e4dd75"
	knownRoster = "02000000000000000000000004000000010000007ce985fea6bdbf00def73ccccfae351702000000f6d10fffd6f4e717dfa1ac78ffdf990303000000" +
		"bcb4327e5db0df10cb675c8c44affd0204000000662a53a3cee0800ad92a8dfb5806c5190000000000000000000000000000000072e80c0d"
	knownParcels = "03000000030000000000000000000000030000000300000001000000300000008ad67a1a7e133f108473c71a7f7c700d4363d8d7a864036a3967b623" +
		"f22a8e6ef8c1377b42c2d969b39a8ba0b9e976fa030000000200000030000000766f377496309a2c1a78b837a2f430692947e7d1babae2118d208427" +
		"ef2c385ba844df36092f69310c86135d5185acd6030000000400000030000000b3ea3231ae274e7db20c53e6b5d9954b618e2cde90a7712be2783a76" +
		"818ad0f284ecc8b4d3de5fe2f79728b21153e6cd000000000000000000000000766ca934"
	knownBundle = "0400000000000000000000000000000003000000010000000300000030000000ba361ac2b5be6c6ece280b0eef6dc2bad3a3e284a89609f48c16c4de" +
		"16cef7400ae3f129d2702ec69611634e322243c3020000000300000030000000c87fe8fbf8ed59188eddee570d5ef8ef728ee19784f7be84052bd784" +
		"54cda595a3ba84ebba2b8f1f944f5b53d7aff1ca0400000003000000300000009a88e5a849782ec43c19ba4d042edb78395a3de444d83c814eee3ef7" +
		"f2a93e828ffa2ee00e95f75447d31c984dc122a6000000000000000000000000b7de36a5"
	knownGift = "050000000300000000000000000000000000000010000000a51eed5dd1071b7560c8d907bbd00e5ad28bf332c879ab6e63f294c428de066a4353bd04" +
		"1bbe4e10304f85bd0ba8265631087026e8c5259e8416e4c6e420967d00000000000000008a33335b"
	knownNames  = "060000000000000000000000000000000000000000000000030000000100000003000000040000000000000001f7c18d"
	knownOpened = "0700000003000000000000000000000000000000000000000000000004000000010000000100000005000000e3e57dc3bebab60071e9ea99fe63c90f" +
		"ffec57703e0ddc1d8eefc3457db5ed0c1cf3301c38ce641b020000000000000001000000e4a0a403ce9965110300000001000000050000007566360f" +
		"09050101036aa3e548ae1310916c0fbb8756251e20707c91c7ff370dae73e96738ce641b040000000100000005000000bea612352e2a26014caa7f0b" +
		"6dd2370fdaacebe0ac7b4a1e69b058b7ec245d0df7b3c58d38ce641b1162bcb3"
)

func TestKnown(t *testing.T) {
	draw := api.Draw{Lock: 3*0x123456789abcdef%(api.P-2) + 1, Key: uint64(3*0xfedcba987654321%(api.P-2)) + 1}
	for i := range draw.Own {
		draw.Own[i] = byte(37*3 + 11*i)
	}
	for i := range uint64(12) {
		draw.Coeffs = append(draw.Coeffs, (3*1000003+i*0x1f2e3d4c5b6a798)%api.P)
	}
	g := give(4, 3)
	g.who, g.samples, g.draw = 3, []int{-9, -4, 3, 5, 40}, draw
	d, e := g.make()
	if e != api.OK {
		t.Fatal(e)
	}
	if got := hex.EncodeToString(d.Hello()); got != knownHello {
		t.Errorf("Hello is %s", got)
	}
	for _, c := range []struct{ heard, answer string }{
		{knownRoster, knownParcels}, {knownBundle, knownGift}, {knownNames, knownOpened},
	} {
		b, err := hex.DecodeString(c.heard)
		if err != nil {
			t.Fatal(err)
		}
		if got := hex.EncodeToString(d.Hear(b)); got != c.answer {
			t.Errorf("%s is answered by %s, not by %s", c.heard, got, c.answer)
		}
	}
}

// noWords are bytes that are no word: what is left of a word, or made of it.
func noWords(b []byte) [][]byte {
	list := [][]byte{nil, {}, {0}, {2}, make([]byte, 4), make([]byte, 40), bytes.Repeat([]byte{255}, 100), make([]byte, api.MaxBytes+5)}
	for i := range b {
		list = append(list, b[:i], b[i+1:])
	}
	for bit := range 8 * len(b) {
		bent := bytes.Clone(b)
		bent[bit/8] ^= 1 << (bit % 8)
		list = append(list, bent)
	}
	for _, behind := range [][]byte{{0}, {1}, make([]byte, 4), b} {
		list = append(list, append(bytes.Clone(b), behind...), append(bytes.Clone(behind), b...))
	}
	return list
}

// ofEachKind are good words of all kinds, among which none is right but by its kind.
func (w *world) ofEachKind(to int) map[int][]byte {
	return map[int][]byte{
		api.Hello:   say(w.t, api.Word{Kind: api.Hello, From: to, Cards: w.cardsOf([]int{to})}),
		api.Roster:  w.roster(w.everyone()...),
		api.Parcels: say(w.t, api.Word{Kind: api.Parcels, From: 1, Parcels: []api.Parcel{w.parcel(1, to)}}),
		api.Bundle:  w.bundle(to, without(w.everyone(), to)...),
		api.Gift:    say(w.t, api.Word{Kind: api.Gift, From: to, Vector: []uint32{1, 2}}),
		api.Names:   w.names(w.everyone()...),
		api.Opened:  say(w.t, api.Word{Kind: api.Opened, From: 1, Openings: []api.Opening{{Who: to, Values: []uint64{1}}}}),
		api.Refused: say(w.t, api.Word{Kind: api.Refused, From: 1, Why: api.ErrFew}),
	}
}

// waited is the kind of words that a phase waits for (none: 0), and last that of what was answered last ahead of it.
func waited(phase int) (kind, last int) {
	return []int{0, api.Roster, api.Bundle, api.Names, 0}[phase], []int{0, 0, api.Roster, api.Bundle, api.Names}[phase]
}

func TestPassedOver(t *testing.T) {
	w := newWorld(t, 4, 2, 3)
	for phase := range 5 {
		kind, last := waited(phase)
		p := w.pair(2).to(phase)
		for k, b := range w.ofEachKind(2) {
			if k != kind && k != last {
				p.passes(b)
			}
		}
		for k, b := range w.ofEachKind(2) {
			if k == kind || k == last {
				for _, no := range noWords(b) {
					p.passes(no)
				}
			}
		}
		p.to(4)
	}
}

// A word of its kind that is fine in its phase is passed over in each other one, but where it was answered last.
func TestRightWordsInOtherPhases(t *testing.T) {
	w := newWorld(t, 4, 2, 31)
	for phase := range 5 {
		kind, _ := waited(phase)
		p := w.pair(2).to(phase)
		for k, list := range map[int][][]byte{
			api.Roster: {w.roster(1, 2), w.roster(2, 4), w.roster(1, 2, 3), w.roster(2), w.roster(1, 3)},
			api.Bundle: {w.bundle(2, 1), w.bundle(2, 3, 4), w.bundle(2), w.bundle(3, 1)},
			api.Names:  {w.names(1, 2), w.names(2, 3, 4), w.names(2), w.names(1, 3), w.names()},
		} {
			for _, b := range list {
				if k != kind {
					p.passes(b)
				}
			}
		}
		p.to(4)
	}
}

func TestSameBytesAgain(t *testing.T) {
	w := newWorld(t, 4, 2, 3)
	p := w.pair(2).to(1)
	steps := [][]byte{w.roster(1, 2, 3), w.bundle(2, 1, 3), w.names(1, 2)}
	for i, b := range steps {
		answer := p.hear(b)
		if len(answer) == 0 || p.donor.Phase() != i+2 {
			t.Fatalf("%d: no answer, or phase %d", i, p.donor.Phase())
		}
		kind, _ := waited(i + 2)
		for range 2 {
			again := func() {
				if got := p.hear(bytes.Clone(b)); !bytes.Equal(got, answer) {
					t.Fatalf("%d: the same bytes are answered by %x, not by %x", i, got, answer)
				}
			}
			again()
			for k, other := range w.ofEachKind(2) {
				if k != kind {
					p.passes(other)
					again()
				}
			}
			for _, older := range steps[:i] {
				p.passes(older)
				again()
			}
			p.passes(b[:len(b)-1])
			again()
			if hello := p.hello(); len(hello) != 0 {
				t.Fatalf("%d: Hello is %x", i, hello)
			}
			again()
		}
	}
}

// refused lets a donor hear a word that it refuses, and whatever else behind it.
func refused(t *testing.T, p *pair, b []byte, why api.Errno) {
	t.Helper()
	phase, last := p.donor.Phase(), p.plain.last
	word := p.hears(b, api.Refused, why)
	if !words.Same(word, api.Word{Kind: api.Refused, From: p.who, Why: why}) {
		t.Errorf("Refused is %v", word)
	}
	if p.donor.Phase() != phase || p.donor.Why() != why {
		t.Errorf("phase %d and Why %d, not %d and %d", p.donor.Phase(), p.donor.Why(), phase, why)
	}
	p.passes(b)
	p.passes(last)
	for _, other := range p.ofEachKind(p.who) {
		p.passes(other)
	}
	p.passes(nil)
	if hello := p.hello(); len(hello) != 0 {
		t.Errorf("Hello is %x", hello)
	}
	p.passes(b)
}

// roster is what a Roster is made of: Cards, of which some are not as they ought to be.
type roster []api.Card

func (w *world) badRoster(list roster) []byte {
	w.t.Helper()
	list = slices.Clone(list)
	slices.SortFunc(list, func(a, b api.Card) int { return a.Who - b.Who })
	return say(w.t, api.Word{Kind: api.Roster, Cards: list})
}

// change changes the Card of a donor, wherever it lies.
func (r roster) change(who int, change func(*api.Card)) {
	for i := range r {
		if r[i].Who == who {
			change(&r[i])
			return
		}
	}
}

func (w *world) all() roster { return slices.Clone(w.cards) }

func TestRostersCounts(t *testing.T) {
	for donors := 1; donors <= 6; donors++ {
		for enough := 1; enough <= donors; enough++ {
			w := newWorld(t, donors, enough, draws(donors*enough))
			for n := 1; n <= donors; n++ {
				for _, list := range [][]int{upTo(n), with(upTo(n-1), donors)} {
					who := list[len(list)-1]
					p := w.pair(who).to(1)
					if n < enough {
						refused(t, p, p.roster(list...), api.ErrFew)
					} else if got := p.hears(p.roster(list...), api.Parcels, api.OK); len(got.Parcels) != n-1 {
						t.Errorf("%d parcels of %d Cards", len(got.Parcels), n)
					}
				}
			}
			refused(t, w.pair(1).to(1), w.roster(), api.ErrFew)
		}
	}
}

func TestRostersCards(t *testing.T) {
	w := newWorld(t, 5, 3, 77)
	changes := map[string]func(*api.Card){
		"Lock by one":  func(c *api.Card) { c.Lock++ },
		"Lock's top":   func(c *api.Card) { c.Lock ^= 1 << 63 },
		"Key by one":   func(c *api.Card) { c.Key-- },
		"Key's top":    func(c *api.Card) { c.Key ^= 1 << 60 },
		"both changed": func(c *api.Card) { c.Lock, c.Key = c.Key, c.Lock },
		"not Good":     func(c *api.Card) { c.Key = 0 },
	}
	for who := 1; who <= 5; who++ {
		for _, change := range changes {
			list := w.all()
			change(&list[who-1])
			refused(t, w.pair(who).to(1), w.badRoster(list), api.ErrSet)
			lone := roster{list[who-1], list[who%5], list[(who+1)%5]}
			refused(t, w.pair(who).to(1), w.badRoster(lone), api.ErrSet)
		}
		refused(t, w.pair(who).to(1), w.roster(without(w.everyone(), who)...), api.ErrSet)
		for _, above := range []int{6, 7, 63, 64} {
			card := w.cards[who%5]
			card.Who = above
			refused(t, w.pair(who).to(1), w.badRoster(append(w.all(), card)), api.ErrSet)
			refused(t, w.pair(who).to(1), w.badRoster(append(w.all()[:4], card)), api.ErrSet)
		}
	}
}

// Somebody else with one's own numbers is a Card as good as any.
func TestRosterWithOnesNumbersTwice(t *testing.T) {
	w := newWorld(t, 3, 2, 8)
	list := w.all()
	list[0].Lock, list[0].Key = list[1].Lock, list[1].Key
	p := w.pair(2).to(1)
	p.hears(w.badRoster(list), api.Parcels, api.OK)
	list = list[:2]
	list[1].Lock = w.cards[2].Lock
	refused(t, w.pair(2).to(1), w.badRoster(list), api.ErrSet)
}

func TestRostersNumbers(t *testing.T) {
	w := newWorld(t, 5, 3, 78)
	good := func(n uint64) bool { return n >= 2 && n <= api.P-2 }
	for _, n := range []uint64{0, 1, 2, 3, api.P - 3, api.P - 2, api.P - 1, api.P, api.P + 1, api.P + 2, 1 << 61, 1<<62 + 2, 1 << 63, math.MaxUint64} {
		for _, who := range []int{1, 3, 5} {
			for _, other := range without(w.everyone(), who) {
				locks, keys := w.all(), w.all()
				locks[other-1].Lock, keys[other-1].Key = n, n
				for _, list := range []roster{locks, keys} {
					if p := w.pair(who).to(1); good(n) {
						p.hears(w.badRoster(list), api.Parcels, api.OK)
					} else {
						refused(t, p, w.badRoster(list), api.ErrKey)
					}
				}
			}
		}
	}
}

func TestWhichErrorOfARoster(t *testing.T) {
	w := newWorld(t, 4, 3, 21)
	faults := []fault[roster]{
		{"few", func(r *roster) { *r = (*r)[len(*r)-2:] }, api.ErrFew},
		{"above", func(r *roster) { r.change(4, func(c *api.Card) { c.Who = 9 }) }, api.ErrSet},
		{"own", func(r *roster) { r.change(2, func(c *api.Card) { c.Key++ }) }, api.ErrSet},
		{"first", func(r *roster) { (*r)[0].Lock = 0 }, api.ErrKey},
		{"last", func(r *roster) { (*r)[len(*r)-1].Key = math.MaxUint64 }, api.ErrKey},
	}
	each(faults, func(list []fault[roster], want api.Errno) {
		r := roster{w.cards[2], w.cards[0], w.cards[1], w.cards[3]} // its own among the last two
		for _, f := range list {
			f.of(&r)
		}
		p := w.pair(2).to(1)
		if want == api.OK {
			p.hears(w.badRoster(r), api.Parcels, api.OK)
		} else {
			refused(t, p, w.badRoster(r), want)
		}
	})
}

func TestParcels(t *testing.T) {
	d := draws(41)
	for _, c := range []struct{ donors, enough int }{
		{1, 1}, {2, 1}, {2, 2}, {3, 1}, {3, 2}, {3, 3}, {7, 1}, {7, 4}, {7, 7}, {64, 1}, {64, 2}, {64, 33}, {64, 64},
	} {
		w := newWorld(t, c.donors, c.enough, d)
		for _, who := range []int{1, (c.donors + 1) / 2, c.donors} {
			w.checkParcels(who, w.everyone())
			for range 3 {
				if list := with(some(&d, w.everyone()), who); len(list) >= c.enough {
					w.checkParcels(who, list)
				}
			}
		}
	}
}

// checkParcels opens what a donor sends by the other ones' secrets.
func (w *world) checkParcels(who int, list []int) {
	w.t.Helper()
	p := w.pair(who).to(1)
	got := p.hears(w.roster(list...), api.Parcels, api.OK)
	others := without(list, who)
	if len(got.Parcels) != len(others) {
		w.t.Fatalf("%d parcels for %d others", len(got.Parcels), len(others))
	}
	for i, to := range others {
		parcel := got.Parcels[i]
		values, e := seal.Open(w.draws[to-1].Lock, w.cards[who-1].Lock, who, to, parcel.Data)
		if e != api.OK || parcel.From != who || parcel.To != to || len(parcel.Data) != 48 || !slices.Equal(values, w.shares(who, to)) {
			w.t.Fatalf("from %d to %d: %v opens to %d, %d", who, to, parcel, values, e)
		}
	}
}

// bundle is what a Bundle is made of.
type bundle []api.Parcel

func (w *world) badBundle(list bundle) []byte {
	w.t.Helper()
	list = slices.Clone(list)
	slices.SortFunc(list, func(a, b api.Parcel) int { return a.From - b.From })
	return say(w.t, api.Word{Kind: api.Bundle, Parcels: list})
}

// sharing brings a donor to phase 2, by a Roster of some.
func (w *world) sharing(who int, list ...int) *pair {
	w.t.Helper()
	p := w.pair(who).to(1)
	p.hears(w.roster(list...), api.Parcels, api.OK)
	return p
}

func TestBundlesCounts(t *testing.T) {
	for donors := 1; donors <= 6; donors++ {
		for enough := 1; enough <= donors; enough++ {
			w := newWorld(t, donors, enough, draws(donors+10*enough))
			for _, who := range []int{1, donors} {
				others := without(w.everyone(), who)
				for n := range donors {
					for _, from := range [][]int{others[:n], others[len(others)-n:]} {
						p := w.pair(who).to(2)
						if n+1 < enough {
							refused(t, p, w.bundle(who, from...), api.ErrFew)
						} else {
							p.hears(w.bundle(who, from...), api.Gift, api.OK)
							p.to(3)
						}
					}
				}
			}
		}
	}
}

func TestBundlesDonors(t *testing.T) {
	w := newWorld(t, 6, 2, 99)
	for at := range 3 {
		good := w.parcels(2, []int{1, 3, 5})
		bad := func(change func(*api.Parcel)) []byte {
			list := slices.Clone(good)
			change(&list[at])
			return w.badBundle(list)
		}
		for _, to := range []int{1, 3, 5, 6, 7, 64} {
			refused(t, w.sharing(2, 1, 2, 3, 5), bad(func(p *api.Parcel) { p.To = to }), api.ErrSet)
		}
		refused(t, w.sharing(2, 1, 2, 3, 5), bad(func(p *api.Parcel) { *p = w.parcel(2, 2) }), api.ErrSet)
		for _, from := range []int{4, 6} {
			refused(t, w.sharing(2, 1, 2, 3, 5), bad(func(p *api.Parcel) { *p = w.parcel(from, 2) }), api.ErrSet)
		}
		for _, from := range []int{7, 63, 64} {
			refused(t, w.sharing(2, 1, 2, 3, 5), bad(func(p *api.Parcel) { p.From = from }), api.ErrSet)
		}
	}
	w.sharing(2, 1, 2, 3, 5).hears(w.bundle(2, 1, 3, 5), api.Gift, api.OK)
	w.sharing(2, 1, 2, 3, 4, 5, 6).hears(w.bundle(2, 4, 6), api.Gift, api.OK)
}

// tooGreat are Parcels that open to numbers of which one is above P - 1.
func (w *world) tooGreat(from, to int) []bundle {
	w.t.Helper()
	var list []bundle
	for i := range 6 {
		values := w.shares(from, to)
		values[i] = api.P - 1
		atP, above := w.sealed(from, to, values), w.sealed(from, to, values)
		atP.Data[8*i] ^= 1
		above.Data[8*i+7] ^= 0x80
		list = append(list, bundle{atP}, bundle{above})
	}
	return list
}

func TestBundlesThatDoNotOpen(t *testing.T) {
	w := newWorld(t, 4, 2, 100)
	for _, from := range []int{1, 3, 4} {
		rest := bundle(w.parcels(2, without([]int{1, 3, 4}, from)))
		var bad []api.Parcel
		for n := range 9 {
			if n != 6 {
				bad = append(bad, w.sealed(from, 2, slices.Repeat([]uint64{5}, n)))
			}
		}
		for n := range 65 {
			if n != 48 {
				bad = append(bad, api.Parcel{From: from, To: 2, Data: bytes.Repeat(w.parcel(from, 2).Data, 2)[:n]})
			}
		}
		for _, b := range w.tooGreat(from, 2) {
			bad = append(bad, b...)
		}
		back := w.parcel(2, from) // to the wrong end
		bad = append(bad, api.Parcel{From: from, To: 2, Data: back.Data}, api.Parcel{From: from, To: 2, Data: w.parcel(from, from).Data})
		for _, parcel := range bad {
			refused(t, w.pair(2).to(2), w.badBundle(append(slices.Clone(rest), parcel)), api.ErrForm)
			refused(t, w.pair(2).to(2), w.badBundle(bundle{parcel}), api.ErrForm)
		}
	}
}

func TestBundlesOfNumbersAtTheirEnds(t *testing.T) {
	w := newWorld(t, 3, 2, 101)
	for _, values := range [][]uint64{make([]uint64, 6), slices.Repeat([]uint64{api.P - 1}, 6), {0, api.P - 1, 0, 1, 1 << 60, 1 << 56}} {
		p := w.pair(2).to(2)
		p.hears(w.badBundle(bundle{w.sealed(1, 2, values), w.parcel(3, 2)}), api.Gift, api.OK)
		told := p.hears(w.names(2, 3), api.Opened, api.OK)
		if !slices.Equal(told.Openings[0].Values, values[:1]) {
			t.Errorf("%d is opened as %v", values, told.Openings[0])
		}
		p = w.pair(2).to(2)
		p.hears(w.badBundle(bundle{w.sealed(1, 2, values), w.parcel(3, 2)}), api.Gift, api.OK)
		told = p.hears(w.names(1, 2), api.Opened, api.OK)
		if !slices.Equal(told.Openings[0].Values, values[1:]) {
			t.Errorf("%d is opened as %v", values, told.Openings[0])
		}
	}
}

func TestWhichErrorOfABundle(t *testing.T) {
	w := newWorld(t, 7, 4, 102)
	faults := []fault[bundle]{
		{"to another one", func(b *bundle) { (*b)[0].To = 3 }, api.ErrSet},
		{"from itself", func(b *bundle) { (*b)[1].From = 2 }, api.ErrSet},
		{"from a stranger", func(b *bundle) { (*b)[1].From = 6 }, api.ErrSet},
		{"few", func(b *bundle) { *b = (*b)[:2] }, api.ErrFew},
		{"shut, the first", func(b *bundle) { (*b)[0].Data = (*b)[0].Data[:40] }, api.ErrForm},
		{"shut, the last", func(b *bundle) { (*b)[len(*b)-1].Data = nil }, api.ErrForm},
	}
	each(faults, func(list []fault[bundle], want api.Errno) {
		b := bundle(w.parcels(2, []int{1, 3, 4}))
		for _, f := range list {
			f.of(&b)
		}
		p := w.sharing(2, 1, 2, 3, 4, 5, 7)
		if want == api.OK {
			p.hears(w.badBundle(b), api.Gift, api.OK)
		} else {
			refused(t, p, w.badBundle(b), want)
		}
	})
}

// The sum of all Gifts is that of the vectors, and of the masks of their own.
func TestGifts(t *testing.T) {
	for _, c := range []struct{ donors, enough, gave int }{{1, 1, 1}, {2, 1, 1}, {2, 2, 2}, {5, 3, 3}, {5, 3, 5}, {64, 3, 7}, {24, 9, 24}} {
		w := newWorld(t, c.donors, c.enough, draws(c.donors))
		gave := upTo(c.donors)[c.donors-c.gave:]
		n, _ := tally.Len(w.setup.Plan)
		gifts, inside := make([]uint32, n), make([]uint32, n)
		for _, who := range gave {
			p := w.sharing(who, w.everyone()...)
			gift := p.hears(w.bundle(who, without(gave, who)...), api.Gift, api.OK)
			gifts, _ = ring.Add(gifts, gift.Vector)
			inside, _ = ring.Add(inside, p.donor.Vector())
			inside, _ = ring.Add(inside, mask.Own(w.draws[who-1].Own, n))
			if slices.Equal(gift.Vector, p.donor.Vector()) {
				t.Errorf("donor %d gives what it has", who)
			}
		}
		if len(gifts) != n || !slices.Equal(gifts, inside) {
			t.Errorf("%d gifts come to %d, not %d", c.gave, gifts, inside)
		}
	}
}

// gave brings a donor to phase 3, by a Roster of all and a Bundle of some.
func (w *world) gave(who int, from ...int) *pair {
	w.t.Helper()
	p := w.pair(who).to(2)
	p.hears(w.bundle(who, from...), api.Gift, api.OK)
	return p
}

func TestNamesCounts(t *testing.T) {
	for donors := 1; donors <= 6; donors++ {
		for enough := 1; enough <= donors; enough++ {
			w := newWorld(t, donors, enough, draws(donors+20*enough))
			for _, who := range []int{1, donors} {
				others := without(w.everyone(), who)
				for n := 1; n <= donors; n++ {
					names := with(others[:n-1], who)
					p := w.pair(who).to(3)
					if n < enough {
						refused(t, p, w.names(names...), api.ErrFew)
						continue
					}
					opened := p.hears(w.names(names...), api.Opened, api.OK)
					w.checkOpened(opened, who, w.everyone(), names)
				}
				refused(t, w.pair(who).to(3), w.names(), api.ErrFew)
			}
		}
	}
}

// checkOpened holds what is told of donors against their shares for one.
func (w *world) checkOpened(got api.Word, to int, of, names []int) {
	w.t.Helper()
	if len(got.Openings) != len(of) {
		w.t.Fatalf("%d are opened, not %d", len(got.Openings), len(of))
	}
	for i, who := range of {
		o, shares := got.Openings[i], w.shares(who, to)
		want := shares[:1]
		if slices.Contains(names, who) {
			want = shares[1:]
		}
		if o.Who != who || o.Own != slices.Contains(names, who) || !slices.Equal(o.Values, want) {
			w.t.Fatalf("%v of donor %d, with shares %d", o, who, shares)
		}
	}
}

func TestNamesDonors(t *testing.T) {
	w := newWorld(t, 6, 2, 120)
	for _, c := range []struct {
		names []int
		why   api.Errno
	}{
		{[]int{2, 4}, api.ErrSet}, {[]int{2, 6}, api.ErrSet}, {[]int{2, 7}, api.ErrSet}, {[]int{2, 64}, api.ErrSet},
		{[]int{1, 2, 3, 4, 5}, api.ErrSet}, {[]int{1, 2, 3, 5, 64}, api.ErrSet}, {[]int{4, 6}, api.ErrSet},
		{[]int{1, 3}, api.ErrSet}, {[]int{1, 3, 5}, api.ErrSet}, {[]int{5, 64}, api.ErrSet},
		{[]int{2}, api.ErrFew}, {[]int{4}, api.ErrFew}, {nil, api.ErrFew},
	} {
		refused(t, w.gave(2, 1, 3, 5), w.names(c.names...), c.why)
	}
	for _, names := range [][]int{{1, 2}, {2, 3}, {2, 5}, {1, 2, 3}, {1, 2, 5}, {2, 3, 5}, {1, 2, 3, 5}} {
		got := w.gave(2, 1, 3, 5).hears(w.names(names...), api.Opened, api.OK)
		w.checkOpened(got, 2, []int{1, 2, 3, 5}, names)
	}
}

func TestWhichErrorOfNames(t *testing.T) {
	w := newWorld(t, 6, 3, 121)
	faults := []fault[[]int]{
		{"few", func(n *[]int) { *n = (*n)[2:] }, api.ErrFew},
		{"a stranger", func(n *[]int) { (*n)[len(*n)-1] = 6 }, api.ErrSet},
		{"not itself", func(n *[]int) { *n = append(without(*n, 4), 5) }, api.ErrSet},
	}
	each(faults, func(list []fault[[]int], want api.Errno) {
		n := []int{1, 3, 4, 2}
		for _, f := range list {
			f.of(&n)
		}
		n = with(nil, n...)
		slices.Sort(n)
		p := w.gave(4, 1, 2, 3, 5)
		if want == api.OK {
			p.hears(w.names(n...), api.Opened, api.OK)
		} else {
			refused(t, p, w.names(n...), want)
		}
	})
}

// Where one is enough, a donor may be alone.
func TestAlone(t *testing.T) {
	for _, c := range []struct{ donors, who int }{{1, 1}, {2, 2}, {64, 17}} {
		w := newWorld(t, c.donors, 1, draws(c.who))
		p := w.sharing(c.who, c.who)
		gift := p.hears(w.bundle(c.who), api.Gift, api.OK)
		want, _ := ring.Add(p.donor.Vector(), mask.Own(w.draws[c.who-1].Own, len(p.donor.Vector())))
		if !slices.Equal(gift.Vector, want) {
			t.Errorf("the Gift is %d, not %d", gift.Vector, want)
		}
		got := p.hears(w.names(c.who), api.Opened, api.OK)
		if len(got.Openings) != 1 || !got.Openings[0].Own || !slices.Equal(got.Openings[0].Values, limbs(w.draws[c.who-1].Own)) {
			t.Errorf("opened is %v", got.Openings)
		}
	}
}

func TestManyDonors(t *testing.T) {
	for _, enough := range []int{1, 40, 64} {
		w := newWorld(t, 64, enough, draws(enough))
		for _, who := range []int{1, 33, 64} {
			p := w.pair(who).to(3)
			names := with(upTo(enough)[:enough-1], who)
			if len(names) < enough {
				names = w.everyone()
			}
			w.checkOpened(p.hears(w.names(names...), api.Opened, api.OK), who, w.everyone(), names)
		}
	}
}

// hub is all donors of a world with whoever gathers what they say; letters are old ones that may come again.
type hub struct {
	*world
	*draws
	pairs   []*pair
	letters [][]byte
}

func (w *world) hub(d *draws) *hub {
	h := &hub{world: w, draws: d}
	for _, who := range w.everyone() {
		h.pairs = append(h.pairs, w.pair(who))
	}
	return h
}

// noise lets someone hear what was told already, to whomever: of those that were answered last, the same is answered, of all others nothing, where none of them is waited for.
func (h *hub) noise() {
	h.t.Helper()
	for range h.below(4) {
		p := oneOf(h.draws, h.pairs)
		for _, b := range h.letters {
			w, e := words.Decode(b)
			kind, _ := waited(p.plain.phase())
			if e != api.OK || w.Kind != kind {
				p.hear(b)
			}
		}
	}
}

// tell lets donors hear a word each, in any order, some of them twice; who falls hears nothing. It is answered by those who answered.
func (h *hub) tell(to []int, word func(who int) []byte, kind int) map[int]api.Word {
	h.t.Helper()
	answers := map[int]api.Word{}
	for _, who := range mixed(h.draws, to) {
		h.noise()
		b := word(who)
		answers[who] = h.pairs[who-1].hears(b, kind, api.OK)
		for range h.below(3) {
			again := h.pairs[who-1].hears(bytes.Clone(b), kind, api.OK)
			if !words.Same(again, answers[who]) {
				h.t.Fatal("another answer")
			}
		}
		h.letters = append(h.letters, b, b[:len(b)-1])
	}
	return answers
}

// fewer takes some away, but leaves enough.
func (h *hub) fewer(list []int) []int {
	for len(list) > h.setup.Enough && h.below(3) > 0 {
		list = without(list, oneOf(h.draws, list))
	}
	return list
}

// run is a whole round: it answers whose vectors are in the sum, and the sum.
func (h *hub) run() ([]int, []uint32) {
	h.t.Helper()
	for _, p := range h.pairs {
		h.noise()
		h.letters = append(h.letters, p.hello())
	}
	hailed := h.fewer(h.everyone())
	roster := h.roster(hailed...)
	sent := h.tell(hailed, func(int) []byte { return roster }, api.Parcels)
	shared := h.fewer(hailed)
	gifts := h.tell(shared, func(who int) []byte { return h.passOn(sent, shared, who) }, api.Gift)
	gave := h.fewer(shared)
	names := h.names(gave...)
	opened := h.tell(h.fewer(gave), func(int) []byte { return names }, api.Opened)
	return gave, h.unmask(shared, gave, gifts, opened)
}

// passOn is the Bundle of what was sent to one.
func (h *hub) passOn(sent map[int]api.Word, shared []int, to int) []byte {
	var list bundle
	for _, from := range without(shared, to) {
		for _, parcel := range sent[from].Parcels {
			if parcel.To == to {
				list = append(list, parcel)
			}
		}
	}
	return h.badBundle(list)
}

// number is what the openers' shares of one donor come to.
func (h *hub) number(opened map[int]api.Word, who, i int) uint64 {
	h.t.Helper()
	var points []api.Point
	for opener, w := range opened {
		for _, o := range w.Openings {
			if o.Who == who {
				points = append(points, api.Point{At: opener, Value: o.Values[i]})
			}
		}
	}
	n, e := joined.Join(h.setup.Enough, points)
	if fits, bad := joined.Fits(h.setup.Enough, points); e != api.OK || bad != api.OK || !fits {
		h.t.Fatalf("the shares %v of donor %d are %d, and fit: %t", points, who, e, fits)
	}
	return n
}

func (h *hub) unmask(shared, gave []int, gifts, opened map[int]api.Word) []uint32 {
	h.t.Helper()
	n, _ := tally.Len(h.setup.Plan)
	sum := make([]uint32, n)
	for _, who := range gave {
		var l [api.Limbs]uint64
		for i := range l {
			l[i] = h.number(opened, who, i)
		}
		own, e := limb.Glue(l)
		if e != api.OK || own != h.world.draws[who-1].Own {
			h.t.Fatalf("donor %d's seed is %x, %d", who, own, e)
		}
		sum, _ = ring.Add(sum, gifts[who].Vector)
		sum, _ = ring.Sub(sum, mask.Own(own, n))
	}
	for _, who := range without(shared, gave...) {
		key := h.number(opened, who, 0)
		if key != h.world.draws[who-1].Key {
			h.t.Fatalf("donor %d's Key is %d", who, key)
		}
		left, e := mask.Left(who, key, h.cardsOf(gave), n)
		if e != api.OK {
			h.t.Fatal(e)
		}
		sum, _ = ring.Sub(sum, left)
	}
	return sum
}

func TestRounds(t *testing.T) {
	d := draws(2026)
	var old [][]byte
	for i := range 40 {
		donors := d.below(7) + 1
		w := newWorld(t, donors, d.below(donors)+1, d)
		h := w.hub(&d)
		if i%2 == 1 {
			h.letters = old // of another round
		}
		gave, sum := h.run()
		var want []uint32
		for _, who := range gave {
			if v := h.pairs[who-1].donor.Vector(); want == nil {
				want = v
			} else {
				want, _ = ring.Add(want, v)
			}
		}
		if !slices.Equal(sum, want) {
			t.Fatalf("the sum of %d is %d, not %d", gave, sum, want)
		}
		old = h.letters
		if len(old) > 30 {
			old = old[:30]
		}
	}
}

// anyWord is a word of any kind, in which something is often wrong.
func (w *world) anyWord(d *draws, who int) []byte {
	switch d.below(8) {
	case 0:
		return oneOf(d, [][]byte{nil, {1}, w.roster(w.everyone()...)[:9], make([]byte, d.below(99))})
	case 1:
		kinds := w.ofEachKind(oneOf(d, w.everyone()))
		return kinds[d.below(8)+1]
	case 2, 3:
		list := roster(w.cardsOf(with(some(d, w.everyone()), who)))
		if d.below(6) == 0 {
			oneOf(d, []func(){
				func() { list[d.below(len(list))].Lock = d.next() % 3 },
				func() { list[d.below(len(list))].Key++ },
				func() { list[len(list)-1].Who = 64 },
				func() { list = list[1:] },
			})()
		}
		return w.badRoster(list)
	case 4, 5:
		list := bundle(w.parcels(who, without(some(d, w.everyone()), who)))
		if d.below(6) == 0 && len(list) > 0 {
			at := d.below(len(list))
			oneOf(d, []func(){
				func() { list[at].Data = list[at].Data[:d.below(48)] },
				func() { list[at].To = oneOf(d, w.everyone()) },
				func() { list[at].Data[d.below(48)] ^= 1 << d.below(8) },
				func() { list[at] = w.parcel(who, who) },
			})()
		}
		return w.badBundle(list)
	default:
		if d.below(6) == 0 {
			return w.names(some(d, w.everyone())...)
		}
		return w.names(with(some(d, w.everyone()), who)...)
	}
}

// told remembers whose shares of what were told.
type told struct{ key, seed [65]bool }

func (o *told) note(t *testing.T, b []byte) {
	t.Helper()
	if len(b) == 0 {
		return
	}
	for _, opening := range read(t, b).Openings {
		if opening.Own {
			o.seed[opening.Who] = true
		} else {
			o.key[opening.Who] = true
		}
		if o.seed[opening.Who] && o.key[opening.Who] || opening.Own && len(opening.Values) != 5 || !opening.Own && len(opening.Values) != 1 {
			t.Fatalf("both of donor %d are told: %v", opening.Who, opening)
		}
	}
}

func TestDrawnRuns(t *testing.T) {
	d := draws(77)
	phases, why := map[int]int{}, map[api.Errno]int{}
	for range 600 {
		donors := d.below(6) + 1
		w := newWorld(t, donors, d.below(donors)+1, d)
		p, o := w.pair(d.below(donors)+1), told{}
		var past [][]byte
		for range 30 {
			b := w.anyWord(&d, p.who)
			if d.below(4) == 0 && len(past) > 0 {
				b = oneOf(&d, past)
			}
			if d.below(6) == 0 {
				p.hello()
			}
			o.note(t, p.hear(b))
			past = append(past, b)
		}
		phases[p.donor.Phase()]++
		why[p.donor.Why()]++
	}
	for phase := range 5 {
		if phase > 0 && phases[phase] < 5 {
			t.Errorf("in phase %d ended %d runs alone", phase, phases[phase])
		}
	}
	for _, e := range []api.Errno{api.OK, api.ErrFew, api.ErrSet, api.ErrKey, api.ErrForm} {
		if why[e] < 3 {
			t.Errorf("by %d ended %d runs alone", e, why[e])
		}
	}
}

// Behind what is opened, and behind an error, no Names open anything else.
func TestNeverBoth(t *testing.T) {
	w := newWorld(t, 5, 2, 130)
	var every [][]byte
	for bits := range 1 << 6 {
		var list []int
		for i := range 6 {
			if bits>>i&1 == 1 {
				list = append(list, i+1)
			}
		}
		every = append(every, w.names(list...))
	}
	for _, first := range every {
		p, o := w.gave(3, 1, 2, 4), told{}
		o.note(t, p.hear(first))
		for _, next := range every {
			o.note(t, p.hear(next))
			o.note(t, p.hear(w.roster(1, 2, 3)))
			o.note(t, p.hear(w.bundle(3, 1, 2)))
			p.hello()
		}
	}
}

// spoil writes over bytes, spare room included.
func spoil(b []byte) {
	for i := range b[:cap(b)] {
		b[:cap(b)][i] ^= 0xa5
	}
}

func withRoom[T any](list []T, mark T) []T {
	room := slices.Repeat([]T{mark}, len(list)+9)
	copy(room, list)
	return room[:len(list)]
}

func whole[T any](list []T) []T { return list[:cap(list)] }

func TestWhatNewWasGivenMayChange(t *testing.T) {
	w := newWorld(t, 4, 3, 140)
	for _, who := range w.everyone() {
		s, samples, draw := w.setup, withRoom(w.samples[who-1], 5), w.draws[who-1]
		s.Plan.Edges, draw.Coeffs = withRoom(s.Plan.Edges, 6), withRoom(draw.Coeffs, 7)
		beforeSamples, beforeEdges, beforeCoeffs := slices.Clone(whole(samples)), slices.Clone(whole(s.Plan.Edges)), slices.Clone(whole(draw.Coeffs))
		d, e := donor.New(s, who, samples, draw)
		if e != api.OK {
			t.Fatal(e)
		}
		p := w.pair(who)
		p.donor = d
		if !slices.Equal(whole(samples), beforeSamples) || !slices.Equal(whole(s.Plan.Edges), beforeEdges) || !slices.Equal(whole(draw.Coeffs), beforeCoeffs) {
			t.Error("New changes what it is given")
		}
		clear(whole(samples))
		clear(whole(s.Plan.Edges))
		clear(whole(draw.Coeffs))
		p.to(4)
	}
}

func TestWhatIsHeardAndAnsweredMayChange(t *testing.T) {
	w := newWorld(t, 4, 2, 141)
	p := w.pair(2)
	spoil(p.hello())
	for _, b := range [][]byte{w.roster(1, 2, 3, 4), w.bundle(2, 1, 3, 4), w.names(1, 2, 3)} {
		for range 3 {
			heard := withRoom(b, 0x77)
			before := bytes.Clone(whole(heard))
			answer := p.hear(heard)
			if len(answer) == 0 || !bytes.Equal(whole(heard), before) {
				t.Fatal("Hear changes what it is given, or answers nothing")
			}
			kept := bytes.Clone(answer)
			spoil(heard)
			if !bytes.Equal(answer, kept) {
				t.Fatal("the answer is what was heard")
			}
			spoil(answer)
		}
		other := p.hear(bytes.Clone(b))
		kept := bytes.Clone(other)
		spoil(p.hear(bytes.Clone(b)))
		if !bytes.Equal(other, kept) {
			t.Fatal("two answers share their memory")
		}
	}
	heard := w.names(1)
	p = w.pair(2).to(3)
	spoil(p.hear(heard))
	spoil(heard)
	p.check()
}

// Two donors side by side: neither changes the other, though they were given the same lists.
func TestSideBySide(t *testing.T) {
	d := draws(150)
	for range 40 {
		w := newWorld(t, 4, 2, d)
		w.samples[1], w.draws[1].Coeffs = w.samples[0], w.draws[0].Coeffs
		pairs := []*pair{w.pair(1), w.pair(2), w.pair(1), w.pair(4)}
		for range 60 {
			p := oneOf(&d, pairs)
			if d.below(5) == 0 {
				p.hello()
			}
			p.hear(w.anyWord(&d, p.who))
			for _, other := range pairs {
				other.check()
			}
		}
	}
}

// The same calls answer the same.
func TestAgain(t *testing.T) {
	w := newWorld(t, 64, 5, 160)
	roster, bundle, names := w.roster(w.everyone()...), w.bundle(9, without(w.everyone(), 9)...), w.names(upTo(40)...)
	var first []byte
	for i := range 5 {
		d, e := donor.New(w.setup, 9, w.samples[8], w.draws[8])
		if e != api.OK {
			t.Fatal(e)
		}
		var all []byte
		for _, b := range [][]byte{d.Hello(), d.Hear(roster), d.Hear(bundle), d.Hear(names)} {
			all = append(all, b...)
		}
		if i == 0 {
			first = all
		}
		if !bytes.Equal(all, first) {
			t.Error("another answer to the same")
		}
	}
}

func TestNil(t *testing.T) {
	var d *donor.Donor
	w := newWorld(t, 3, 2, 170)
	for range 2 {
		if b := d.Hello(); len(b) != 0 {
			t.Errorf("Hello is %x", b)
		}
		for _, b := range append([][]byte{nil, {}, {1}}, w.roster(1, 2, 3), w.bundle(1, 2, 3), w.names(1, 2)) {
			if got := d.Hear(b); len(got) != 0 {
				t.Errorf("Hear is %x", got)
			}
		}
		if d.Phase() != 0 || d.Why() != api.ErrArg || len(d.Vector()) != 0 {
			t.Errorf("Phase %d, Why %d, Vector %d", d.Phase(), d.Why(), d.Vector())
		}
	}
}

// A Donor that New did not make has no number, and so no word that could be said.
func TestDonorThatNewDidNotMake(t *testing.T) {
	var d donor.Donor
	w := newWorld(t, 3, 2, 171)
	for range 2 {
		for _, b := range [][]byte{d.Hello(), d.Hear(nil), d.Hear(w.roster(1, 2, 3)), d.Hear(w.bundle(1, 2, 3)), d.Hear(w.names(1, 2))} {
			if len(b) != 0 {
				t.Errorf("%x is said", b)
			}
		}
	}
}
