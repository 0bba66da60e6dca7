package letter_test

import (
	"bytes"
	"encoding/binary"
	"hash/crc32"
	"math"
	"slices"
	"testing"

	"offertory/api"
	"offertory/letter"
)

const (
	least    = math.MinInt
	greatest = math.MaxInt
	full     = math.MaxUint32
)

// draws are numbers that look drawn; each call has another.
type draws uint64

func (d *draws) next() uint64 {
	*d = *d*6364136223846793005 + 1442695040888963407
	return uint64(*d) ^ uint64(*d)>>29
}

func (d *draws) below(n int) int { return int(d.next() % uint64(n)) }

// bytes has spare room behind it.
func (d *draws) bytes(n int) []byte {
	b := make([]byte, 0, n+3)
	for range n {
		b = append(b, byte(d.next()))
	}
	return b
}

// field is one of the three kinds, and what is in it.
type field struct {
	kind  byte
	small int
	great uint64
	bytes []byte
}

func small(n int) field    { return field{kind: 's', small: n} }
func great(n uint64) field { return field{kind: 'g', great: n} }
func some(b []byte) field  { return field{kind: 'b', bytes: b} }

// plain are the field's bytes, by the library's own writing.
func (f field) plain() []byte {
	switch f.kind {
	case 's':
		return binary.LittleEndian.AppendUint32(nil, uint32(f.small))
	case 'g':
		return binary.LittleEndian.AppendUint64(nil, f.great)
	}
	return append(binary.LittleEndian.AppendUint32(nil, uint32(len(f.bytes))), f.bytes...)
}

func (f field) put(p *letter.Paper) *letter.Paper {
	switch f.kind {
	case 's':
		return p.Small(f.small)
	case 'g':
		return p.Great(f.great)
	}
	return p.Bytes(f.bytes)
}

// checkRead: the Eye's next field is this one.
func (f field) checkRead(t *testing.T, e *letter.Eye) {
	t.Helper()
	switch f.kind {
	case 's':
		if n := e.Small(); n != f.small {
			t.Errorf("Small is %d, not %d", n, f.small)
		}
	case 'g':
		if n := e.Great(); n != f.great {
			t.Errorf("Great is %d, not %d", n, f.great)
		}
	default:
		if b := e.Bytes(); !bytes.Equal(b, f.bytes) || cap(b) != len(b) {
			t.Errorf("Bytes is %x with room for %d, not %x", b, cap(b), f.bytes)
		}
	}
}

func (d *draws) field() field {
	switch d.below(3) {
	case 0:
		return small(int(uint32(d.next()) >> d.below(33)))
	case 1:
		return great(d.next() >> d.below(65))
	}
	return some(d.bytes(d.below(1 << d.below(8))))
}

// plainCheck goes bit by bit, as the chapter says it.
func plainCheck(b []byte) uint32 {
	number := uint32(1<<32 - 1)
	for _, x := range b {
		for i := range 8 {
			bit := uint32(x>>i) & 1
			out := number&1 ^ bit
			number >>= 1
			if out == 1 {
				number ^= 0xEDB88320
			}
		}
	}
	return 0xFFFFFFFF - number
}

func plainFields(fields []field) []byte {
	var b []byte
	for _, f := range fields {
		b = append(b, f.plain()...)
	}
	return b
}

// withCheck has the check behind the bytes, in new memory.
func withCheck(b []byte) []byte {
	return binary.LittleEndian.AppendUint32(slices.Clone(b), plainCheck(b))
}

func paper(fields ...field) *letter.Paper {
	p := letter.Blank()
	for _, f := range fields {
		p = f.put(p)
	}
	return p
}

func checkSeal(t *testing.T, p *letter.Paper, want []byte) {
	t.Helper()
	if b, e := p.Seal(); e != api.OK || !bytes.Equal(b, want) {
		t.Errorf("Seal is %x, %d, not %x", b, e, want)
	}
}

func checkSealFault(t *testing.T, p *letter.Paper, want api.Errno) {
	t.Helper()
	if b, e := p.Seal(); e != want || len(b) != 0 {
		t.Errorf("Seal is %d bytes, %d, not %d", len(b), e, want)
	}
}

func checkEnd(t *testing.T, e *letter.Eye, want api.Errno) {
	t.Helper()
	if wrong := e.End(); wrong != want {
		t.Errorf("End is %d, not %d", wrong, want)
	}
}

// checkNothing: whatever is asked, there is nothing more, and what was wrong stays.
func checkNothing(t *testing.T, e *letter.Eye, want api.Errno) {
	t.Helper()
	for range 2 {
		if n := e.Small(); n != 0 {
			t.Errorf("behind %d, Small is %d", want, n)
		}
		if n := e.Great(); n != 0 {
			t.Errorf("behind %d, Great is %d", want, n)
		}
		if b := e.Bytes(); len(b) != 0 || cap(b) != 0 {
			t.Errorf("behind %d, Bytes is %x with room for %d", want, b, cap(b))
		}
		checkEnd(t, e, want)
	}
}

// checkLookFault: it is wrong at once, whichever call is the first.
func checkLookFault(t *testing.T, b []byte, want api.Errno) {
	t.Helper()
	checkEnd(t, letter.Look(b), want)
	checkNothing(t, letter.Look(b), want)
	if x := letter.Look(b); x.Great() != 0 || x.End() != want {
		t.Errorf("%d bytes: Great, and %d", len(b), x.End())
	}
	if x := letter.Look(b); len(x.Bytes()) != 0 || x.End() != want {
		t.Errorf("%d bytes: Bytes, and %d", len(b), x.End())
	}
	if x := letter.Look(b); x.Small() != 0 || x.End() != want {
		t.Errorf("%d bytes: Small, and %d", len(b), x.End())
	}
}

// checkBoth: the fields are sealed as they plainly are, and read again.
func checkBoth(t *testing.T, fields ...field) {
	t.Helper()
	want := withCheck(plainFields(fields))
	checkSeal(t, paper(fields...), want)
	e := letter.Look(want)
	if e == nil {
		t.Fatal("Look answers no Eye")
	}
	for _, f := range fields {
		f.checkRead(t, e)
	}
	checkEnd(t, e, api.OK)
	checkEnd(t, e, api.OK)
	if len(fields) > 0 {
		// What is left unread is wrong.
		for n := range fields {
			e := letter.Look(want)
			for _, f := range fields[:n] {
				f.checkRead(t, e)
			}
			checkEnd(t, e, api.ErrForm)
			checkNothing(t, e, api.ErrForm)
		}
	}
	checkNothing(t, e, api.ErrShort)
}

func TestCheck(t *testing.T) {
	for _, c := range []struct {
		text string
		want uint32
	}{
		{"", 0}, {"\x00", 0xD202EF8D}, {"\xff", 0xFF000000}, {"a", 0xE8B7BE43}, {"abc", 0x352441C2},
		{"123456789", 0xCBF43926}, {"\x00\x00\x00\x00", 0x2144DF1C}, {"\xff\xff\xff\xff", 0xFFFFFFFF},
		{"The quick brown fox jumps over the lazy dog", 0x414FA339},
	} {
		if n := letter.Check([]byte(c.text)); n != c.want {
			t.Errorf("Check(%q) is %08x, not %08x", c.text, n, c.want)
		}
		if n := plainCheck([]byte(c.text)); n != c.want {
			t.Errorf("plainly %q is %08x, not %08x", c.text, n, c.want)
		}
	}
	if n := letter.Check(nil); n != 0 {
		t.Errorf("Check(nil) is %x", n)
	}
	if n := letter.Check(make([]byte, 0, 9)); n != 0 {
		t.Errorf("Check of room alone is %x", n)
	}
}

func TestCheckMany(t *testing.T) {
	d := draws(1)
	for x := range 256 {
		checkCheck(t, []byte{byte(x)})
		checkCheck(t, []byte{byte(x), byte(x)})
		checkCheck(t, slices.Repeat([]byte{byte(x)}, 300))
	}
	for n := range 300 {
		checkCheck(t, d.bytes(n))
	}
	// No length is too much for a check.
	for _, n := range []int{65535, 65536, 65540, 65541, 300000} {
		checkCheck(t, d.bytes(n))
		checkCheck(t, make([]byte, n))
	}
}

func checkCheck(t *testing.T, b []byte) {
	t.Helper()
	n := letter.Check(b)
	if n != plainCheck(b) || n != crc32.ChecksumIEEE(b) {
		t.Errorf("Check of %d bytes is %08x, not %08x", len(b), n, plainCheck(b))
	}
}

func TestBlank(t *testing.T) {
	if letter.Blank() == nil {
		t.Fatal("Blank is nil")
	}
	checkSeal(t, letter.Blank(), []byte{0, 0, 0, 0})
	checkBoth(t)
	checkEnd(t, letter.Look([]byte{0, 0, 0, 0}), api.OK)
	checkNothing(t, letter.Look([]byte{0, 0, 0, 0}), api.ErrShort)
}

func TestSealKnown(t *testing.T) {
	for _, c := range []struct {
		p    *letter.Paper
		want string
	}{
		{letter.Blank(), ""},
		{letter.Blank().Small(0), "\x00\x00\x00\x00"},
		{letter.Blank().Small(1), "\x01\x00\x00\x00"},
		{letter.Blank().Small(0x12345678), "\x78\x56\x34\x12"},
		{letter.Blank().Small(full), "\xff\xff\xff\xff"},
		{letter.Blank().Small(1 << 31), "\x00\x00\x00\x80"},
		{letter.Blank().Great(0), "\x00\x00\x00\x00\x00\x00\x00\x00"},
		{letter.Blank().Great(0x123456789ABCDEF0), "\xf0\xde\xbc\x9a\x78\x56\x34\x12"},
		{letter.Blank().Great(1 << 63), "\x00\x00\x00\x00\x00\x00\x00\x80"},
		{letter.Blank().Great(math.MaxUint64), "\xff\xff\xff\xff\xff\xff\xff\xff"},
		{letter.Blank().Bytes(nil), "\x00\x00\x00\x00"},
		{letter.Blank().Bytes([]byte{}), "\x00\x00\x00\x00"},
		{letter.Blank().Bytes([]byte("x")), "\x01\x00\x00\x00x"},
		{letter.Blank().Bytes([]byte("xyz")), "\x03\x00\x00\x00xyz"},
		{letter.Blank().Bytes(make([]byte, 0, 7)), "\x00\x00\x00\x00"},
		{letter.Blank().Bytes(make([]byte, 258)), "\x02\x01\x00\x00" + string(make([]byte, 258))},
		{letter.Blank().Small(2).Great(3).Bytes([]byte("q")), "\x02\x00\x00\x00\x03\x00\x00\x00\x00\x00\x00\x00\x01\x00\x00\x00q"},
		{letter.Blank().Bytes([]byte("q")).Great(3).Small(2), "\x01\x00\x00\x00q\x03\x00\x00\x00\x00\x00\x00\x00\x02\x00\x00\x00"},
	} {
		checkSeal(t, c.p, withCheck([]byte(c.want)))
	}
	// Written out, check and all.
	checkSeal(t, letter.Blank().Bytes([]byte("123456789")), []byte("\x09\x00\x00\x00123456789"+"\xe2\x61\x1c\xa5"))
	checkSeal(t, letter.Blank().Small(0), []byte{0, 0, 0, 0, 0x1C, 0xDF, 0x44, 0x21})
	checkSeal(t, letter.Blank().Small(full), []byte{255, 255, 255, 255, 255, 255, 255, 255})
}

// kinds: each kind at its ends and in between.
func kinds() []field {
	return []field{
		small(0), small(1), small(0x01020304), small(1 << 31), small(full - 1), small(full),
		great(0), great(1), great(full), great(full + 1), great(0x0102030405060708), great(1 << 63), great(math.MaxUint64),
		some(nil), some([]byte{}), some([]byte{0}), some([]byte{255}), some([]byte("xyz")), some(make([]byte, 256)), some(slices.Repeat([]byte{7}, 1000)),
	}
}

// Each field alone, each two of them and each three, the same one twice among them.
func TestOrders(t *testing.T) {
	all := kinds()
	for _, a := range all {
		checkBoth(t, a)
		for _, b := range all {
			checkBoth(t, a, b)
			for _, c := range []field{a, b, small(9), great(10), some([]byte("ten"))} {
				checkBoth(t, a, b, c)
			}
		}
	}
}

func TestMany(t *testing.T) {
	d := draws(2)
	for range 500 {
		fields := make([]field, d.below(20))
		for i := range fields {
			fields[i] = d.field()
		}
		checkBoth(t, fields...)
	}
}

// Each number that has one bit alone, and those beside it.
func TestEachBit(t *testing.T) {
	for bit := range 64 {
		n := uint64(1) << bit
		checkBoth(t, great(n-1), great(n), great(n+1), great(^n))
		if bit < 32 {
			checkBoth(t, small(int(n-1)), small(int(n)), small(int(full^n)))
		}
	}
}

func wrongSmalls() []int {
	return []int{-1, -2, -128, -1 << 31, -1 << 32, -1<<32 + 1, -1 << 62, least, least + 1, 1 << 32, 1<<32 + 1, 1 << 33, 1<<40 + 5, 1 << 62, greatest - 1, greatest}
}

func TestSmallRange(t *testing.T) {
	d := draws(3)
	for _, n := range wrongSmalls() {
		checkSealFault(t, letter.Blank().Small(n), api.ErrRange)
		for _, f := range kinds() {
			checkSealFault(t, paper(f, small(n)), api.ErrRange)
			checkSealFault(t, paper(small(n), f), api.ErrRange)
			checkSealFault(t, paper(f, small(n), f, f), api.ErrRange)
		}
		for _, m := range wrongSmalls() {
			checkSealFault(t, paper(small(n), small(m)), api.ErrRange)
		}
		// ErrRange is named ahead of ErrFull, whichever came first.
		tooMany := some(d.bytes(api.MaxBytes))
		checkSealFault(t, paper(small(n), tooMany), api.ErrRange)
		checkSealFault(t, paper(tooMany, small(n)), api.ErrRange)
		checkSealFault(t, paper(tooMany, small(n), tooMany, small(1)), api.ErrRange)
		checkSealFault(t, paper(small(1), tooMany, great(2), small(n), some(nil)), api.ErrRange)
	}
}

// With exactly as many bytes as there may be, one more field is wrong in its own way.
func TestSmallRangeAtTheEnd(t *testing.T) {
	whole := some(make([]byte, api.MaxBytes-4))
	checkSealFault(t, paper(whole, small(0)), api.ErrFull)
	checkSealFault(t, paper(whole, small(-1)), api.ErrRange)
	checkSealFault(t, paper(small(1<<32), whole), api.ErrRange)
	checkSealFault(t, paper(whole, small(0), small(-1)), api.ErrRange)
	checkSealFault(t, paper(whole, small(-1), small(0)), api.ErrRange)
}

// A Small that fits into four bytes when it is cut is no more right for that.
func TestSmallStaysWrong(t *testing.T) {
	p := letter.Blank().Small(1 << 32)
	for range 3 {
		checkSealFault(t, p, api.ErrRange)
	}
	checkSealFault(t, p.Small(1), api.ErrRange)
	checkSealFault(t, p.Great(1), api.ErrRange)
	checkSealFault(t, p.Bytes([]byte("a")), api.ErrRange)
}

func TestFull(t *testing.T) {
	d := draws(4)
	b := d.bytes(api.MaxBytes + 10)
	for n := api.MaxBytes - 7; n <= api.MaxBytes-4; n++ {
		checkBoth(t, some(b[:n]))
	}
	for _, n := range []int{api.MaxBytes - 3, api.MaxBytes - 2, api.MaxBytes - 1, api.MaxBytes, api.MaxBytes + 1, len(b)} {
		p := letter.Blank().Bytes(b[:n])
		checkSealFault(t, p, api.ErrFull)
		checkSealFault(t, p, api.ErrFull)
		checkSealFault(t, p.Bytes(nil).Small(1).Great(1), api.ErrFull)
	}
	checkSealFault(t, letter.Blank().Bytes(make([]byte, 1<<20)), api.ErrFull)
}

// filled has fields of the kind till n bytes, or a few less, are written.
func filled(n int, f field) []field {
	return slices.Repeat([]field{f}, n/len(f.plain()))
}

func TestFullOfMany(t *testing.T) {
	for _, f := range []field{small(5), great(6), some(nil), some(make([]byte, 4)), some(make([]byte, 60)), some(make([]byte, api.MaxBytes/2-4))} {
		fields := filled(api.MaxBytes, f)
		want := plainFields(fields)
		if len(want) != api.MaxBytes {
			t.Fatalf("%d bytes", len(want))
		}
		p := paper(fields...)
		checkSeal(t, p, withCheck(want))
		e := letter.Look(withCheck(want))
		for range fields {
			f.checkRead(t, e)
		}
		checkEnd(t, e, api.OK)
		for _, more := range []field{small(0), great(0), some(nil), some([]byte{1}), f} {
			checkSealFault(t, more.put(paper(fields...)), api.ErrFull)
		}
		checkSealFault(t, p.Small(0), api.ErrFull)
		checkSeal(t, paper(fields[1:]...), withCheck(want[len(f.plain()):]))
	}
}

// One byte less than all, all, and one more, however the bytes are spread.
func TestFullByOne(t *testing.T) {
	room := make([]byte, api.MaxBytes)
	for i := range room {
		room[i] = byte(i * 7)
	}
	for _, head := range [][]field{nil, {small(1)}, {great(2)}, {some([]byte("abc"))}, {small(1), great(2), some(nil), great(3)}, filled(60000, great(9))} {
		for _, tail := range [][]field{nil, {small(3)}, {great(4)}, {some([]byte("d"))}, {some(nil), small(7)}} {
			used := len(plainFields(head)) + len(plainFields(tail)) + 4
			for by := -2; by <= 2; by++ {
				fields := slices.Concat(head, []field{some(room[:api.MaxBytes-used+by])}, tail)
				if by > 0 {
					checkSealFault(t, paper(fields...), api.ErrFull)
					continue
				}
				want := withCheck(plainFields(fields))
				checkSeal(t, paper(fields...), want)
				e := letter.Look(want)
				for _, f := range fields {
					f.checkRead(t, e)
				}
				checkEnd(t, e, api.OK)
			}
		}
	}
}

// A field that does not fit is not left out: what would fit behind it comes too late.
func TestFullStays(t *testing.T) {
	p := letter.Blank().Small(1)
	checkSeal(t, p, withCheck(small(1).plain()))
	p.Bytes(make([]byte, api.MaxBytes))
	for range 3 {
		checkSealFault(t, p, api.ErrFull)
		p.Small(2)
	}
	q := paper(filled(api.MaxBytes-4, small(5))...)
	checkSealFault(t, q.Great(0), api.ErrFull)
	checkSealFault(t, q.Small(0), api.ErrFull)
	r := paper(filled(api.MaxBytes-4, small(5))...)
	checkSealFault(t, r.Bytes([]byte{1}), api.ErrFull)
	checkSealFault(t, r.Bytes(nil), api.ErrFull)
}

func TestSamePaper(t *testing.T) {
	for _, p := range []*letter.Paper{letter.Blank(), letter.Blank().Small(-1), letter.Blank().Bytes(make([]byte, api.MaxBytes))} {
		for range 2 {
			for _, n := range []int{0, 7, full, -1, 1 << 32, least, greatest} {
				if p.Small(n) != p {
					t.Errorf("Small(%d) answers another Paper", n)
				}
				if p.Great(uint64(n)) != p {
					t.Errorf("Great(%d) answers another Paper", n)
				}
			}
			for _, b := range [][]byte{nil, {}, {1}, make([]byte, api.MaxBytes+1)} {
				if p.Bytes(b) != p {
					t.Errorf("Bytes of %d answers another Paper", len(b))
				}
			}
		}
	}
	if letter.Blank() == letter.Blank() {
		t.Error("Blank answers one Paper twice")
	}
}

func TestNilPaper(t *testing.T) {
	var none *letter.Paper
	for _, n := range []int{0, 1, full, -1, 1 << 32, least, greatest} {
		if none.Small(n) != nil || none.Great(uint64(n)) != nil {
			t.Errorf("a nil Paper has the field %d", n)
		}
	}
	for _, b := range [][]byte{nil, {}, {1}, make([]byte, api.MaxBytes+1)} {
		if none.Bytes(b) != nil {
			t.Errorf("a nil Paper has %d bytes", len(b))
		}
	}
	checkSealFault(t, none, api.ErrArg)
	checkSealFault(t, none.Small(-1).Bytes(make([]byte, api.MaxBytes+1)).Great(3), api.ErrArg)
}

func TestNilEye(t *testing.T) {
	var none *letter.Eye
	checkNothing(t, none, api.ErrArg)
	checkEnd(t, none, api.ErrArg)
}

// Seal ends nothing: the next field stands behind those that were sealed.
func TestSealAgain(t *testing.T) {
	d := draws(5)
	for range 50 {
		p := letter.Blank()
		var fields []field
		for range 12 {
			want := withCheck(plainFields(fields))
			checkSeal(t, p, want)
			checkSeal(t, p, want)
			f := d.field()
			f.put(p)
			fields = append(fields, f)
		}
	}
	p := letter.Blank().Small(1)
	checkSeal(t, p, withCheck(small(1).plain()))
	checkSealFault(t, p.Small(-1), api.ErrRange)
	q := letter.Blank().Small(1)
	checkSeal(t, q, withCheck(small(1).plain()))
	checkSealFault(t, q.Bytes(make([]byte, api.MaxBytes)), api.ErrFull)
	checkSealFault(t, q.Small(-1), api.ErrRange)
}

func TestTwoPapers(t *testing.T) {
	d := draws(6)
	for range 50 {
		papers := []*letter.Paper{letter.Blank(), letter.Blank(), letter.Blank()}
		fields := make([][]field, len(papers))
		for range 30 {
			i := d.below(len(papers))
			f := d.field()
			f.put(papers[i])
			fields[i] = append(fields[i], f)
			// One that goes wrong takes no other with it.
			letter.Blank().Small(-1)
			letter.Blank().Bytes(make([]byte, api.MaxBytes))
			for j := range papers {
				checkSeal(t, papers[j], withCheck(plainFields(fields[j])))
			}
		}
	}
}

func TestTwoEyes(t *testing.T) {
	fields := []field{small(1), some([]byte("abc")), great(2), some(nil), small(3)}
	b := withCheck(plainFields(fields))
	one, two := letter.Look(b), letter.Look(b)
	bad := letter.Look(b[1:])
	for i, f := range fields {
		f.checkRead(t, one)
		if i > 0 {
			fields[i-1].checkRead(t, two)
		}
		checkNothing(t, bad, api.ErrForm)
		checkEnd(t, letter.Look(b), api.ErrForm)
	}
	checkEnd(t, one, api.OK)
	checkEnd(t, two, api.ErrForm)
	checkEnd(t, one, api.OK)
}

func TestLookShort(t *testing.T) {
	for _, b := range [][]byte{nil, {}, {0}, {0, 0}, {0, 0, 0}, {1}, {255, 255}, {1, 2, 3}, make([]byte, 3, 10), make([]byte, 0, 4)} {
		checkLookFault(t, b, api.ErrShort)
	}
	for n := range 4 {
		checkLookFault(t, withCheck(small(9).plain())[:n], api.ErrShort)
	}
	for _, b := range [][]byte{{1, 0, 0, 0}, {0, 0, 0, 1}, {255, 255, 255, 255}, {0, 0, 0, 128}} {
		checkLookFault(t, b, api.ErrForm)
	}
}

func TestLookFull(t *testing.T) {
	d := draws(7)
	for _, n := range []int{api.MaxBytes - 1, api.MaxBytes} {
		b := d.bytes(n)
		right := withCheck(b)
		e := letter.Look(right)
		for i := range n / 8 {
			if x := e.Great(); x != binary.LittleEndian.Uint64(b[8*i:]) {
				t.Fatalf("the number %d is %x", i, x)
			}
		}
		if n%8 == 0 {
			checkEnd(t, e, api.OK)
		} else {
			checkEnd(t, e, api.ErrForm)
		}
		right[n] ^= 1
		checkLookFault(t, right, api.ErrForm)
	}
	for _, n := range []int{api.MaxBytes + 1, api.MaxBytes + 2, api.MaxBytes + 4, 2 * api.MaxBytes, 1 << 20} {
		b := withCheck(d.bytes(n))
		checkLookFault(t, b, api.ErrFull)
		b[n] ^= 1
		checkLookFault(t, b, api.ErrFull)
		clear(b)
		checkLookFault(t, b, api.ErrFull)
	}
	// Room behind the bytes does not count.
	b := withCheck(d.bytes(api.MaxBytes + 9))
	right := withCheck(b[:8])
	copy(b, right)
	e := letter.Look(b[:12])
	if n := e.Great(); n != binary.LittleEndian.Uint64(right) {
		t.Errorf("Great is %x", n)
	}
	checkEnd(t, e, api.OK)
}

// Whichever bit is turned, of the fields or of the check, nothing is read.
func TestTurnedBits(t *testing.T) {
	d := draws(8)
	letters := [][]byte{
		withCheck(nil),
		withCheck(small(0).plain()),
		withCheck(great(math.MaxUint64).plain()),
		withCheck(some([]byte("123456789")).plain()),
		withCheck(plainFields([]field{small(1), great(2), some(d.bytes(200)), small(3)})),
		withCheck(d.bytes(77)),
	}
	for _, b := range letters {
		for bit := range 8 * len(b) {
			b[bit/8] ^= 1 << (bit % 8)
			checkLookFault(t, b, api.ErrForm)
			b[bit/8] ^= 1 << (bit % 8)
		}
		for i := range b {
			x := b[i]
			b[i] = ^x
			checkLookFault(t, b, api.ErrForm)
			b[i] = x
		}
		if wrong := letter.Look(b).End(); len(b) > 4 && wrong != api.ErrForm || len(b) == 4 && wrong != api.OK {
			t.Errorf("End is %d", wrong)
		}
	}
}

// The check stands with its lowest byte first, of the bytes ahead of it alone.
func TestLookOtherChecks(t *testing.T) {
	body := []byte("123456789abc")
	n := plainCheck(body)
	checkLookFault(t, binary.BigEndian.AppendUint32(slices.Clone(body), n), api.ErrForm)
	checkLookFault(t, binary.LittleEndian.AppendUint32(slices.Clone(body), ^n), api.ErrForm)
	checkLookFault(t, append(binary.LittleEndian.AppendUint32(nil, n), body...), api.ErrForm)
	checkLookFault(t, slices.Clone(body), api.ErrForm)
	checkLookFault(t, append(withCheck(body), 0), api.ErrForm)
	checkLookFault(t, withCheck(body)[1:], api.ErrForm)
	checkLookFault(t, withCheck(body)[:len(body)+3], api.ErrForm)
}

// asked are the three reading calls; each says whether it read anything but 0 or none.
func asked() map[string]func(e *letter.Eye) bool {
	return map[string]func(e *letter.Eye) bool{
		"Small": func(e *letter.Eye) bool { return e.Small() != 0 },
		"Great": func(e *letter.Eye) bool { return e.Great() != 0 },
		"Bytes": func(e *letter.Eye) bool { return len(e.Bytes()) != 0 },
	}
}

// A number of which not all bytes are there is 0, and what is there of it is not read as another.
func TestReadShort(t *testing.T) {
	calls := asked()
	for _, head := range [][]field{nil, {small(7)}, {great(8), some([]byte("abc"))}} {
		for n := range 12 {
			body := append(plainFields(head), slices.Repeat([]byte{1}, n)...)
			for name, need := range map[string]int{"Small": 4, "Great": 8, "Bytes": 4 + 0x01010101} {
				e := letter.Look(withCheck(body))
				for _, f := range head {
					f.checkRead(t, e)
				}
				if read := calls[name](e); read != (n >= need) {
					t.Errorf("of %d bytes, %s reads: %t", n, name, read)
				}
				switch {
				case n < need:
					checkNothing(t, e, api.ErrShort)
				case n == need:
					checkEnd(t, e, api.OK)
				default:
					checkEnd(t, e, api.ErrForm)
					checkNothing(t, e, api.ErrForm)
				}
			}
		}
	}
}

// counted is a Bytes whose count is told, and what stands behind it.
func counted(count uint32, rest []byte) []byte {
	return append(binary.LittleEndian.AppendUint32(nil, count), rest...)
}

func TestReadBytesCounts(t *testing.T) {
	d := draws(9)
	for _, left := range []int{0, 1, 3, 4, 5, 100, 255, 256, 1000, api.MaxBytes - 4} {
		rest := d.bytes(left)
		n := uint32(left)
		for _, count := range []uint32{n + 1, n + 2, n + 256, n + 4, 1 << 16, 1<<16 + 1, 1 << 24, 1<<31 - 1, 1 << 31, 1<<31 + n, full - n, full - 4, full - 3, full - 1, full} {
			if count <= n {
				continue
			}
			e := letter.Look(withCheck(counted(count, rest)))
			if b := e.Bytes(); len(b) != 0 || cap(b) != 0 {
				t.Errorf("%d are told, %d are left: Bytes is %d bytes", count, left, len(b))
			}
			checkNothing(t, e, api.ErrShort)
		}
		e := letter.Look(withCheck(counted(n, rest)))
		some(rest).checkRead(t, e)
		checkEnd(t, e, api.OK)
		if left == 0 {
			continue
		}
		e = letter.Look(withCheck(counted(n-1, rest)))
		some(rest[:left-1]).checkRead(t, e)
		checkEnd(t, e, api.ErrForm)
		checkNothing(t, e, api.ErrForm)
	}
}

// An empty Bytes is no error, not at the end either.
func TestReadEmptyBytes(t *testing.T) {
	for n := range 5 {
		e := letter.Look(withCheck(make([]byte, 4*n)))
		for range n {
			if b := e.Bytes(); len(b) != 0 || cap(b) != 0 {
				t.Errorf("Bytes is %x with room for %d", b, cap(b))
			}
		}
		checkEnd(t, e, api.OK)
		checkNothing(t, e, api.ErrShort)
	}
}

// The first error stays, and all the bytes that are left say nothing behind it.
func TestFirstErrorStays(t *testing.T) {
	calls := asked()
	// The count is too great: neither it nor what follows is read again.
	body := append(counted(50, []byte("xyzxyzxyzxyzxyz")), great(math.MaxUint64).plain()...)
	for name, call := range calls {
		e := letter.Look(withCheck(body))
		if b := e.Bytes(); len(b) != 0 {
			t.Errorf("Bytes is %x", b)
		}
		if call(e) {
			t.Errorf("%s reads behind an error", name)
		}
		checkNothing(t, e, api.ErrShort)
	}
	// A Great that is not all there, where a Small would be.
	for name, call := range calls {
		e := letter.Look(withCheck([]byte{1, 0, 0, 0, 7}))
		if n := e.Great(); n != 0 {
			t.Errorf("Great is %d", n)
		}
		if call(e) {
			t.Errorf("%s reads behind an error", name)
		}
		checkNothing(t, e, api.ErrShort)
	}
	// Something is left at the End, and is then no more to be read.
	for name, call := range calls {
		e := letter.Look(withCheck(plainFields([]field{small(3), some([]byte("abc")), great(5)})))
		checkEnd(t, e, api.ErrForm)
		if call(e) {
			t.Errorf("%s reads behind the End", name)
		}
		checkNothing(t, e, api.ErrForm)
	}
	// End with nothing left ends nothing: what is read there is too short.
	for name, call := range calls {
		e := letter.Look(withCheck(nil))
		checkEnd(t, e, api.OK)
		if call(e) {
			t.Errorf("%s reads of nothing", name)
		}
		checkNothing(t, e, api.ErrShort)
	}
}

// A field may be read as another one: the bytes are the same.
func TestReadOtherwise(t *testing.T) {
	e := letter.Look(withCheck(plainFields([]field{small(2), small(0x04030201)})))
	some([]byte{1, 2}).checkRead(t, e)
	checkEnd(t, e, api.ErrForm)
	e = letter.Look(withCheck(plainFields([]field{great(7<<32 | 5)})))
	small(5).checkRead(t, e)
	small(7).checkRead(t, e)
	checkEnd(t, e, api.OK)
	e = letter.Look(withCheck(plainFields([]field{small(5), small(7)})))
	great(7<<32|5).checkRead(t, e)
	checkEnd(t, e, api.OK)
}

// Any bytes with a right check are read, whatever is asked of them, as they plainly lie.
func TestReadAny(t *testing.T) {
	d := draws(10)
	for range 2000 {
		body := d.bytes(d.below(60))
		for i := range body {
			if d.below(2) == 0 {
				body[i] = byte(d.below(5)) * byte(d.below(2))
			}
		}
		e := letter.Look(withCheck(body))
		rest, wrong := body, api.OK
		for range 8 {
			f := field{}
			f, rest, wrong = plainRead(d.below(3), rest, wrong)
			f.checkRead(t, e)
			if wrong == api.OK && len(rest) > 0 && d.below(12) == 0 {
				wrong = api.ErrForm
				checkEnd(t, e, wrong)
			}
		}
		if wrong == api.OK && len(rest) > 0 {
			wrong = api.ErrForm
		}
		checkEnd(t, e, wrong)
	}
}

// plainRead is the field of the kind ahead of rest, what lies behind it, and what is wrong.
func plainRead(kind int, rest []byte, wrong api.Errno) (field, []byte, api.Errno) {
	need := []int{4, 8, 4}[kind]
	if kind == 2 && len(rest) >= 4 {
		need += int(binary.LittleEndian.Uint32(rest))
	}
	nothing := []field{small(0), great(0), some(nil)}[kind]
	if wrong != api.OK {
		return nothing, rest, wrong
	}
	if len(rest) < need {
		return nothing, nil, api.ErrShort
	}
	switch kind {
	case 0:
		return small(int(binary.LittleEndian.Uint32(rest))), rest[4:], api.OK
	case 1:
		return great(binary.LittleEndian.Uint64(rest)), rest[8:], api.OK
	}
	return some(rest[4:need]), rest[need:], api.OK
}

// whole has all of a list's room in sight.
func whole(b []byte) []byte { return b[:cap(b)] }

// No call changes the bytes that are handed in, nor the room behind them.
func TestHandedInStays(t *testing.T) {
	d := draws(11)
	for range 100 {
		b := d.bytes(d.below(100))
		spare := whole(b)
		for i := len(b); i < len(spare); i++ {
			spare[i] = byte(100 + i)
		}
		was := slices.Clone(spare)
		letter.Check(b)
		p := letter.Blank().Bytes(b).Small(5).Bytes(b).Great(9)
		p.Seal()
		p.Small(-1).Bytes(b).Seal()
		letter.Look(b).End()
		if !bytes.Equal(whole(b), was) {
			t.Fatalf("%x is now %x", was, whole(b))
		}
		sealed := append(withCheck(append(counted(3, []byte("abc")), b...)), make([]byte, 9)...)
		sealed = sealed[:len(sealed)-9]
		was = slices.Clone(whole(sealed))
		e := letter.Look(sealed)
		scribble(e.Bytes())
		e.Small()
		scribble(e.Bytes())
		e.Great()
		e.End()
		if !bytes.Equal(whole(sealed), was) {
			t.Fatalf("%x is now %x", was, whole(sealed))
		}
	}
}

// scribble writes over a list and all room that it has.
func scribble(b []byte) {
	for i := range whole(b) {
		whole(b)[i] ^= 0xA5
	}
	b = append(b, 0xEE, 0xEE, 0xEE, 0xEE, 0xEE)
	for i := range whole(b) {
		whole(b)[i] ^= 0x5A
	}
}

// Bytes that change behind Bytes(b) do not change what is sealed.
func TestWrittenIsApart(t *testing.T) {
	for n := range 70 {
		b := make([]byte, n, n+20)
		for i := range b {
			b[i] = byte(i)
		}
		want := withCheck(plainFields([]field{some(slices.Clone(b)), small(1), some(slices.Clone(b))}))
		p := letter.Blank().Bytes(b).Small(1).Bytes(b)
		scribble(b)
		checkSeal(t, p, want)
		scribble(b)
		checkSeal(t, p, want)
		// The first field alone may be kept otherwise.
		b = []byte("handed in")
		q := letter.Blank().Bytes(b)
		scribble(b)
		checkSeal(t, q, withCheck(some([]byte("handed in")).plain()))
	}
}

// What Seal answers is nobody else's: neither the Paper's nor the next answer's.
func TestSealedIsApart(t *testing.T) {
	d := draws(12)
	for n := range 70 {
		fields := []field{some(d.bytes(n))}
		p := paper(fields...)
		want := withCheck(plainFields(fields))
		one, _ := p.Seal()
		two, _ := p.Seal()
		scribble(one)
		if !bytes.Equal(two, want) {
			t.Fatalf("of %d bytes, an answer changes with another one", n)
		}
		checkSeal(t, p, want)
		for range 4 {
			f := d.field()
			f.put(p)
			fields = append(fields, f)
			now, _ := p.Seal()
			if !bytes.Equal(two, want) {
				t.Fatalf("of %d bytes, an answer changes with a field more", n)
			}
			scribble(now)
			checkSeal(t, p, withCheck(plainFields(fields)))
			if !bytes.Equal(two, want) {
				t.Fatalf("of %d bytes, an answer changes with a later one", n)
			}
		}
	}
	one, _ := letter.Blank().Seal()
	two, _ := letter.Blank().Seal()
	scribble(one)
	if !bytes.Equal(two, []byte{0, 0, 0, 0}) {
		t.Errorf("sealed is %x", two)
	}
	checkSeal(t, letter.Blank(), []byte{0, 0, 0, 0})
}

// Bytes that change behind Look(b) do not change what is read, and what is read changes nothing that is still to be read.
func TestReadIsApart(t *testing.T) {
	d := draws(13)
	for range 200 {
		fields := []field{some(d.bytes(d.below(20)))}
		for range d.below(6) {
			fields = append(fields, d.field(), some(d.bytes(d.below(40))))
		}
		b := append(withCheck(plainFields(fields)), 1, 2, 3)
		b = b[:len(b)-3]
		e, twin := letter.Look(b), letter.Look(b)
		was := slices.Clone(whole(b))
		var read, held [][]byte
		for i, f := range fields {
			if f.kind != 'b' {
				f.checkRead(t, e)
				continue
			}
			x := e.Bytes()
			if !bytes.Equal(x, f.bytes) || cap(x) != len(x) {
				t.Fatalf("Bytes is %x with room for %d, not %x", x, cap(x), f.bytes)
			}
			// Every other one is written over at once, and the rest held.
			if i%2 == 0 {
				scribble(x)
			} else {
				read, held = append(read, x), append(held, slices.Clone(x))
			}
			if !bytes.Equal(whole(b), was) {
				t.Fatal("what was handed in changes with what is read")
			}
		}
		checkEnd(t, e, api.OK)
		scribble(b)
		for i := range read {
			if !bytes.Equal(read[i], held[i]) {
				t.Fatalf("%x is now %x", held[i], read[i])
			}
		}
		for _, f := range fields {
			f.checkRead(t, twin)
		}
		checkEnd(t, twin, api.OK)
	}
}

// Not even the check is looked at again: what was right or wrong at once stays so.
func TestLookedAtOnce(t *testing.T) {
	b := withCheck(small(5).plain())
	e := letter.Look(b)
	b[0] ^= 1
	small(5).checkRead(t, e)
	checkEnd(t, e, api.OK)
	bent := letter.Look(b)
	b[0] ^= 1
	checkNothing(t, bent, api.ErrForm)
	small(5).checkRead(t, letter.Look(b))
}

// What was asked before changes no answer.
func TestNothingIsKept(t *testing.T) {
	fields := []field{small(1), some([]byte("abc")), great(2)}
	want := withCheck(plainFields(fields))
	others := []func(){
		func() { letter.Blank().Small(-1).Seal() },
		func() { letter.Blank().Bytes(make([]byte, api.MaxBytes+1)).Seal() },
		func() { letter.Blank().Bytes([]byte("other")).Great(9).Seal() },
		func() { letter.Look(nil).End() },
		func() { letter.Look(make([]byte, api.MaxBytes+5)).Bytes() },
		func() { letter.Look(want[1:]).Small() },
		func() { letter.Look(want).End() },
		func() { letter.Check([]byte("other")) },
		func() { (*letter.Paper)(nil).Seal() },
		func() { (*letter.Eye)(nil).End() },
	}
	for _, other := range others {
		p := letter.Blank()
		for _, f := range fields {
			other()
			f.put(p)
		}
		other()
		checkSeal(t, p, want)
		e := letter.Look(want)
		for _, f := range fields {
			other()
			f.checkRead(t, e)
		}
		other()
		checkEnd(t, e, api.OK)
		if n := letter.Check([]byte("123456789")); n != 0xCBF43926 {
			t.Errorf("Check is %x", n)
		}
	}
}
