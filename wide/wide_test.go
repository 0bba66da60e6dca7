package wide_test

import (
	"math"
	"math/big"
	"strings"
	"testing"

	"offertory/api"
	"offertory/wide"
)

type number = api.Wide

const half = math.MaxUint64

// draws are numbers that look drawn; each call has another.
type draws uint64

func (d *draws) next() uint64 {
	*d = *d*6364136223846793005 + 1442695040888963407
	return uint64(*d) ^ uint64(*d)>>29
}

// half has, beside drawn numbers of any length, many at the ends.
func (d *draws) half() uint64 {
	switch n := d.next(); n % 8 {
	case 0:
		return n >> 8 % 3
	case 1:
		return half - n>>8%3
	case 2:
		return 1<<63 - 1 + n>>8%3
	default:
		return d.next() >> (n >> 8 % 64)
	}
}

func (d *draws) number() number { return number{Hi: d.half(), Lo: d.half()} }

// whole is a number without bounds.
func whole(a number) *big.Int {
	n := new(big.Int).SetUint64(a.Hi)
	n.Lsh(n, 64)
	return n.Or(n, new(big.Int).SetUint64(a.Lo))
}

// bounded is a number by 2^128; one below 0 is counted from 2^128 down.
func bounded(n *big.Int) number {
	m := new(big.Int).Mod(n, new(big.Int).Lsh(big.NewInt(1), 128))
	lo := new(big.Int).And(m, new(big.Int).SetUint64(half))
	return number{Hi: m.Rsh(m, 64).Uint64(), Lo: lo.Uint64()}
}

func read(t *testing.T, text string) number {
	t.Helper()
	n, ok := new(big.Int).SetString(text, 10)
	if !ok || n.Sign() < 0 || n.BitLen() > 128 {
		t.Fatalf("%q is no number of 128 bits", text)
	}
	return bounded(n)
}

// ends are numbers at which a half, or the whole, goes over.
func ends() []number {
	halves := []uint64{0, 1, 2, 1<<32 - 1, 1 << 32, 1<<63 - 1, 1 << 63, 1<<63 + 1, half - 1, half}
	var list []number
	for _, hi := range halves {
		for _, lo := range halves {
			list = append(list, number{Hi: hi, Lo: lo})
		}
	}
	return list
}

func checkAdd(t *testing.T, a, b number) {
	t.Helper()
	want := bounded(new(big.Int).Add(whole(a), whole(b)))
	if got := wide.Add(a, b); got != want {
		t.Errorf("Add(%x, %x) is %x, not %x", a, b, got, want)
	}
	if got := wide.Sub(wide.Add(a, b), b); got != a {
		t.Errorf("Sub(Add(%x, %x), %x) is %x", a, b, b, got)
	}
}

func checkSub(t *testing.T, a, b number) {
	t.Helper()
	want := bounded(new(big.Int).Sub(whole(a), whole(b)))
	if got := wide.Sub(a, b); got != want {
		t.Errorf("Sub(%x, %x) is %x, not %x", a, b, got, want)
	}
	if got := wide.Add(wide.Sub(a, b), b); got != a {
		t.Errorf("Add(Sub(%x, %x), %x) is %x", a, b, b, got)
	}
}

func checkMul(t *testing.T, a, b uint64) {
	t.Helper()
	want := bounded(new(big.Int).Mul(whole(number{Lo: a}), whole(number{Lo: b})))
	if got := wide.Mul(a, b); got != want {
		t.Errorf("Mul(%d, %d) is %x, not %x", a, b, got, want)
	}
}

func checkShift(t *testing.T, a number, n int) {
	t.Helper()
	var want number
	switch {
	case n < 1:
		want = a
	case n < 128:
		want = bounded(new(big.Int).Lsh(whole(a), uint(n)))
	}
	if got := wide.Shift(a, n); got != want {
		t.Errorf("Shift(%x, %d) is %x, not %x", a, n, got, want)
	}
}

func checkNeg(t *testing.T, a number) {
	t.Helper()
	want := bounded(new(big.Int).Neg(whole(a)))
	if got := wide.Neg(a); got != want {
		t.Errorf("Neg(%x) is %x, not %x", a, got, want)
	}
	if got := wide.Add(a, wide.Neg(a)); got != (number{}) {
		t.Errorf("%x and Neg of it together are %x", a, got)
	}
	if got := wide.Neg(wide.Neg(a)); got != a {
		t.Errorf("Neg(Neg(%x)) is %x", a, got)
	}
}

func checkCompare(t *testing.T, a, b number) {
	t.Helper()
	want := whole(a).Cmp(whole(b))
	if got := wide.Compare(a, b); got != want {
		t.Errorf("Compare(%x, %x) is %d, not %d", a, b, got, want)
	}
	if got := wide.Compare(b, a); got != -want {
		t.Errorf("Compare(%x, %x) is %d, not %d", b, a, got, -want)
	}
}

func checkText(t *testing.T, a number) {
	t.Helper()
	if got, want := wide.Text(a), whole(a).String(); got != want {
		t.Errorf("Text(%x) is %q, not %q", a, got, want)
	}
}

func TestAddKnown(t *testing.T) {
	for _, c := range []struct{ a, b, want number }{
		{number{}, number{}, number{}},
		{number{Lo: 1}, number{Lo: 2}, number{Lo: 3}},
		{number{Hi: 1, Lo: 2}, number{Hi: 3, Lo: 4}, number{Hi: 4, Lo: 6}},
		{number{Lo: half}, number{Lo: 1}, number{Hi: 1}},
		{number{Lo: half}, number{Lo: half}, number{Hi: 1, Lo: half - 1}},
		{number{Hi: half}, number{Hi: 1}, number{}},
		{number{Hi: 1 << 63}, number{Hi: 1 << 63}, number{}},
		{number{Hi: half, Lo: half}, number{Lo: 1}, number{}},
		{number{Hi: half, Lo: half}, number{Hi: half, Lo: half}, number{Hi: half, Lo: half - 1}},
	} {
		if got := wide.Add(c.a, c.b); got != c.want {
			t.Errorf("Add(%x, %x) is %x, not %x", c.a, c.b, got, c.want)
		}
		if got := wide.Add(c.b, c.a); got != c.want {
			t.Errorf("Add(%x, %x) is %x, not %x", c.b, c.a, got, c.want)
		}
	}
}

func TestSubKnown(t *testing.T) {
	for _, c := range []struct{ a, b, want number }{
		{number{}, number{}, number{}},
		{number{Lo: 3}, number{Lo: 2}, number{Lo: 1}},
		{number{Hi: 4, Lo: 6}, number{Hi: 3, Lo: 4}, number{Hi: 1, Lo: 2}},
		{number{Hi: 1}, number{Lo: 1}, number{Lo: half}},
		{number{Hi: 5}, number{Hi: 3, Lo: 1}, number{Hi: 1, Lo: half}},
		{number{}, number{Lo: 1}, number{Hi: half, Lo: half}},
		{number{}, number{Hi: 1}, number{Hi: half}},
		{number{Lo: 2}, number{Hi: 1, Lo: 1}, number{Hi: half, Lo: 1}},
		{number{}, number{Hi: half, Lo: half}, number{Lo: 1}},
	} {
		if got := wide.Sub(c.a, c.b); got != c.want {
			t.Errorf("Sub(%x, %x) is %x, not %x", c.a, c.b, got, c.want)
		}
	}
}

func TestAddAndSubEachWithEach(t *testing.T) {
	for _, a := range ends() {
		for _, b := range ends() {
			checkAdd(t, a, b)
			checkSub(t, a, b)
		}
	}
}

func TestAddAndSubMany(t *testing.T) {
	d := draws(1)
	for range 20000 {
		checkAdd(t, d.number(), d.number())
		checkSub(t, d.number(), d.number())
	}
}

func TestMulKnown(t *testing.T) {
	for _, c := range []struct {
		a, b uint64
		want number
	}{
		{0, 0, number{}},
		{0, half, number{}},
		{1, half, number{Lo: half}},
		{6, 7, number{Lo: 42}},
		{1 << 32, 1 << 32, number{Hi: 1}},
		{1<<32 - 1, 1<<32 + 1, number{Lo: half}},
		{1 << 63, 2, number{Hi: 1}},
		{1 << 63, 1 << 63, number{Hi: 1 << 62}},
		{half, 2, number{Hi: 1, Lo: half - 1}},
		{half, half, number{Hi: half - 1, Lo: 1}},
	} {
		if got := wide.Mul(c.a, c.b); got != c.want {
			t.Errorf("Mul(%d, %d) is %x, not %x", c.a, c.b, got, c.want)
		}
	}
}

func TestMulEachWithEach(t *testing.T) {
	list := []uint64{0, 1, 2, 3, 10, 1<<31 - 1, 1 << 31, 1<<32 - 1, 1 << 32, 1<<32 + 1, api.P - 1, api.P, 1<<63 - 1, 1 << 63, 1<<63 + 1, half - 1, half}
	for n := uint64(1); n != 0; n <<= 1 {
		list = append(list, n, n-1, half-n)
	}
	for _, a := range list {
		for _, b := range list {
			checkMul(t, a, b)
		}
	}
}

func TestMulMany(t *testing.T) {
	d := draws(2)
	for range 20000 {
		checkMul(t, d.half(), d.half())
		checkMul(t, d.next(), d.next())
	}
}

func TestShiftKnown(t *testing.T) {
	all := number{Hi: half, Lo: half}
	for _, c := range []struct {
		a    number
		n    int
		want number
	}{
		{number{Lo: 1}, 0, number{Lo: 1}},
		{number{Lo: 1}, 1, number{Lo: 2}},
		{number{Lo: 1}, 63, number{Lo: 1 << 63}},
		{number{Lo: 1}, 64, number{Hi: 1}},
		{number{Lo: 1}, 65, number{Hi: 2}},
		{number{Lo: 1}, 127, number{Hi: 1 << 63}},
		{number{Lo: 1}, 128, number{}},
		{number{Lo: 2}, 127, number{}},
		{number{Lo: 3}, 63, number{Hi: 1, Lo: 1 << 63}},
		{number{Hi: 1}, 63, number{Hi: 1 << 63}},
		{number{Hi: 1}, 64, number{}},
		{number{Hi: 1, Lo: 1}, 64, number{Hi: 1}},
		{all, 1, number{Hi: half, Lo: half - 1}},
		{all, 63, number{Hi: half, Lo: 1 << 63}},
		{all, 64, number{Hi: half}},
		{all, 127, number{Hi: 1 << 63}},
		{all, 128, number{}},
		{all, 192, number{}},
		{all, 256, number{}},
		{all, math.MaxInt, number{}},
		{all, -1, all},
		{all, -64, all},
		{all, -128, all},
		{all, math.MinInt, all},
	} {
		if got := wide.Shift(c.a, c.n); got != c.want {
			t.Errorf("Shift(%x, %d) is %x, not %x", c.a, c.n, got, c.want)
		}
	}
}

// Each n, and such as would look like another one if their upper bits were lost.
func TestShiftEachN(t *testing.T) {
	counts := []int{math.MinInt, math.MinInt + 1, math.MinInt32, -257, -256, -255, -129, -128, -127, -65, -64, -63, 191, 192, 193, 255, 256, 257, math.MaxUint8 + 64, math.MaxInt32, math.MaxUint32, math.MaxUint32 + 1, math.MaxUint32 + 2, math.MaxUint32 + 65, math.MaxInt - 1, math.MaxInt}
	for n := -2; n <= 130; n++ {
		counts = append(counts, n)
	}
	d := draws(3)
	list := ends()
	for range 100 {
		list = append(list, d.number(), number{Hi: d.next(), Lo: d.next()})
	}
	for _, n := range counts {
		for _, a := range list {
			checkShift(t, a, n)
		}
	}
}

// A bit that is set alone goes up by just n places, or out.
func TestShiftEachBit(t *testing.T) {
	for i := range 128 {
		for n := range 130 {
			checkShift(t, bounded(new(big.Int).Lsh(big.NewInt(1), uint(i))), n)
		}
	}
}

func TestNegKnown(t *testing.T) {
	for _, c := range []struct{ a, want number }{
		{number{}, number{}},
		{number{Lo: 1}, number{Hi: half, Lo: half}},
		{number{Lo: half}, number{Hi: half, Lo: 1}},
		{number{Hi: 1}, number{Hi: half}},
		{number{Hi: 1, Lo: 1}, number{Hi: half - 1, Lo: half}},
		{number{Hi: 1 << 63}, number{Hi: 1 << 63}},
		{number{Hi: half, Lo: half}, number{Lo: 1}},
	} {
		if got := wide.Neg(c.a); got != c.want {
			t.Errorf("Neg(%x) is %x, not %x", c.a, got, c.want)
		}
	}
}

func TestNegMany(t *testing.T) {
	for _, a := range ends() {
		checkNeg(t, a)
	}
	d := draws(4)
	for range 20000 {
		checkNeg(t, d.number())
	}
}

func TestCompareKnown(t *testing.T) {
	for _, c := range []struct {
		a, b number
		want int
	}{
		{number{}, number{}, 0},
		{number{Hi: half, Lo: half}, number{Hi: half, Lo: half}, 0},
		{number{}, number{Lo: 1}, -1},
		{number{Lo: half}, number{Hi: 1}, -1},
		{number{Hi: 1, Lo: half}, number{Hi: 2}, -1},
		{number{Hi: 2, Lo: 1}, number{Hi: 2, Lo: 1 << 63}, -1},
		{number{Hi: 1, Lo: 7}, number{Hi: 1 << 63, Lo: 7}, -1},
		{number{Hi: 1 << 63}, number{Hi: half}, -1},
		{number{Lo: 1 << 63}, number{Lo: half}, -1},
		{number{Hi: 5, Lo: 6}, number{Hi: 6, Lo: 5}, -1},
	} {
		if got := wide.Compare(c.a, c.b); got != c.want {
			t.Errorf("Compare(%x, %x) is %d, not %d", c.a, c.b, got, c.want)
		}
		if got := wide.Compare(c.b, c.a); got != -c.want {
			t.Errorf("Compare(%x, %x) is %d, not %d", c.b, c.a, got, -c.want)
		}
	}
}

func TestCompareEachWithEach(t *testing.T) {
	for _, a := range ends() {
		for _, b := range ends() {
			checkCompare(t, a, b)
		}
	}
}

// Drawn numbers are seldom alike in a half, so that here they are made so.
func TestCompareMany(t *testing.T) {
	d := draws(5)
	for range 20000 {
		a, b := d.number(), d.number()
		checkCompare(t, a, b)
		checkCompare(t, a, a)
		checkCompare(t, a, number{Hi: a.Hi, Lo: b.Lo})
		checkCompare(t, a, number{Hi: b.Hi, Lo: a.Lo})
		checkCompare(t, a, number{Hi: a.Lo, Lo: a.Hi})
	}
}

func TestTextKnown(t *testing.T) {
	for _, c := range []struct {
		a    number
		want string
	}{
		{number{}, "0"},
		{number{Lo: 7}, "7"},
		{number{Lo: 10}, "10"},
		{number{Lo: 9_999_999_999_999_999_999}, "9999999999999999999"},
		{number{Lo: 10_000_000_000_000_000_000}, "10000000000000000000"},
		{number{Lo: half}, "18446744073709551615"},
		{number{Hi: 1}, "18446744073709551616"},
		{number{Hi: 1 << 63}, "170141183460469231731687303715884105728"},
		{number{Hi: half, Lo: half}, "340282366920938463463374607431768211455"},
	} {
		if got := wide.Text(c.a); got != c.want {
			t.Errorf("Text(%x) is %q, not %q", c.a, got, c.want)
		}
	}
}

func TestTextPowersOfTen(t *testing.T) {
	power := number{Lo: 1}
	for n := 1; n <= 38; n++ {
		power = wide.Add(wide.Shift(power, 3), wide.Shift(power, 1))
		zeros := strings.Repeat("0", n)
		for _, c := range []struct {
			a    number
			want string
		}{
			{power, "1" + zeros},
			{wide.Sub(power, number{Lo: 1}), strings.Repeat("9", n)},
			{wide.Add(power, number{Lo: 1}), "1" + zeros[1:] + "1"},
			{wide.Shift(power, 1), "2" + zeros},
		} {
			if got := wide.Text(c.a); got != c.want {
				t.Errorf("Text(%x) is %q, not %q", c.a, got, c.want)
			}
		}
	}
}

// One digit alone among zeros, and digits at both ends of a run of zeros, wherever it begins and ends.
func TestTextZeros(t *testing.T) {
	for i := range 38 {
		for k := range i {
			for _, digit := range []byte{'1', '5', '9'} {
				text := []byte(strings.Repeat("0", 38))
				text[37-i], text[37-k] = digit, digit
				for j := range k {
					if j%2 == int(digit-'0')/5%2 {
						text[37-j] = '7'
					}
				}
				want := strings.TrimLeft(string(text), "0")
				if got := wide.Text(read(t, want)); got != want {
					t.Errorf("Text of %s is %q", want, got)
				}
			}
		}
	}
}

func TestTextMany(t *testing.T) {
	for _, a := range ends() {
		checkText(t, a)
	}
	for i := range 128 {
		n := new(big.Int).Lsh(big.NewInt(1), uint(i))
		checkText(t, bounded(n))
		checkText(t, bounded(n.Sub(n, big.NewInt(1))))
	}
	d := draws(6)
	for range 20000 {
		checkText(t, d.number())
		checkText(t, number{Hi: d.next(), Lo: d.next()})
	}
	for n := range uint64(2000) {
		checkText(t, number{Lo: n})
	}
}

// Nothing is kept: what another call was given changes no answer.
func TestNothingIsKept(t *testing.T) {
	a, b := number{Hi: 3, Lo: half}, number{Hi: 2, Lo: 5}
	sum, difference, product, moved, turned := wide.Add(a, b), wide.Sub(a, b), wide.Mul(half, 5), wide.Shift(a, 5), wide.Neg(a)
	order, text := wide.Compare(a, b), wide.Text(a)
	d := draws(7)
	for range 50 {
		x, y := d.number(), d.number()
		wide.Add(x, y)
		wide.Sub(x, y)
		wide.Mul(x.Lo, y.Hi)
		wide.Shift(x, int(y.Lo%130))
		wide.Neg(y)
		wide.Compare(y, x)
		wide.Text(x)
		if wide.Add(a, b) != sum || wide.Sub(a, b) != difference || wide.Mul(half, 5) != product || wide.Shift(a, 5) != moved || wide.Neg(a) != turned {
			t.Fatalf("a number answered behind other calls, of %x and %x, is another one", x, y)
		}
		if wide.Compare(a, b) != order || wide.Text(a) != text {
			t.Fatalf("Compare or Text behind other calls, of %x and %x, is another one", x, y)
		}
	}
}
