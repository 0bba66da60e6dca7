package cipher_test

import (
	"bytes"
	"encoding/binary"
	"encoding/hex"
	"math"
	"testing"

	"offertory/api"
	"offertory/cipher"
)

type four [4]uint32

func quarter(x four) four {
	a, b, c, d := cipher.Quarter(x[0], x[1], x[2], x[3])
	return four{a, b, c, d}
}

// plainQuarter is the chapter's words, one by one, in numbers of 64 bits.
func plainQuarter(x four) four {
	const whole = 1 << 32
	a, b, c, d := uint64(x[0]), uint64(x[1]), uint64(x[2]), uint64(x[3])
	for _, step := range []struct{ first, second uint }{{16, 12}, {8, 7}} {
		a = (a + b) % whole
		d = (d ^ a) << step.first
		d = d%whole + d/whole
		c = (c + d) % whole
		b = (b ^ c) << step.second
		b = b%whole + b/whole
	}
	return four{uint32(a), uint32(b), uint32(c), uint32(d)}
}

func plainBlock(key api.Seed, counter uint32, nonce [12]byte) []byte {
	text := append([]byte("expand 32-byte k"), key[:]...)
	text = binary.LittleEndian.AppendUint32(text, counter)
	text = append(text, nonce[:]...)
	var first [16]uint32
	for i := range first {
		first[i] = binary.LittleEndian.Uint32(text[4*i:])
	}
	s := first
	for round := range 20 {
		for i := range 4 {
			// In a row of four places the odd rounds go one further for each row.
			var p [4]int
			for row := range p {
				p[row] = 4*row + (i+row*(round%2))%4
			}
			x := plainQuarter(four{s[p[0]], s[p[1]], s[p[2]], s[p[3]]})
			s[p[0]], s[p[1]], s[p[2]], s[p[3]] = x[0], x[1], x[2], x[3]
		}
	}
	var out []byte
	for i := range s {
		out = binary.LittleEndian.AppendUint32(out, s[i]+first[i])
	}
	return out
}

func plainXor(key api.Seed, counter uint32, nonce [12]byte, b []byte) []byte {
	var out []byte
	for i, x := range b {
		out = append(out, x^plainBlock(key, counter+uint32(i/64), nonce)[i%64])
	}
	return out
}

// draws are bytes that look drawn; each call has others.
type draws uint64

func (d *draws) next() byte {
	*d = *d*6364136223846793005 + 1442695040888963407
	return byte(*d >> 56)
}

func (d *draws) key() (key api.Seed) {
	for i := range key {
		key[i] = d.next()
	}
	return key
}

func (d *draws) nonce() (nonce [12]byte) {
	for i := range nonce {
		nonce[i] = d.next()
	}
	return nonce
}

func (d *draws) bytes(n int) []byte {
	b := make([]byte, n)
	for i := range b {
		b[i] = d.next()
	}
	return b
}

func (d *draws) number() uint32 { return binary.LittleEndian.Uint32(d.bytes(4)) }

func counting() (key api.Seed) {
	for i := range key {
		key[i] = byte(i)
	}
	return key
}

func filled(x byte) (key api.Seed) {
	for i := range key {
		key[i] = x
	}
	return key
}

func unhex(t *testing.T, text string) []byte {
	t.Helper()
	b, err := hex.DecodeString(text)
	if err != nil {
		t.Fatal(err)
	}
	return b
}

func TestQuarterKnown(t *testing.T) {
	const most = math.MaxUint32
	for _, c := range []struct{ x, want four }{
		{four{0x11111111, 0x01020304, 0x9b8d6f43, 0x01234567}, four{0xea2a92f4, 0xcb1cf8ce, 0x4581472e, 0x5881c4bb}},
		{four{0x516461b1, 0x2a5f714c, 0x53372767, 0x3d631689}, four{0xbdb886dc, 0xcfacafd2, 0xe46bea80, 0xccc07c79}},
		{four{}, four{}},
		{four{1, 0, 0, 0}, four{0x10000001, 0x80808808, 0x01010110, 0x01000110}},
		{four{0, 1, 0, 0}, four{0x10001001, 0x88888808, 0x01110110, 0x01100110}},
		{four{0, 0, 1, 0}, four{0x00001000, 0x08080080, 0x00100001, 0x00100000}},
		{four{0, 0, 0, 1}, four{0x10000000, 0x80800808, 0x01010010, 0x01000010}},
		{four{most, 0, 0, 0}, four{0xfffffffe, 0xffff807f, 0x000000ff, 0x00000100}},
		{four{0, most, 0, 0}, four{most, most, most, 0}},
		{four{0, 0, most, 0}, four{most, 0x00000080, 0xfffffffe, most}},
		{four{0, 0, 0, most}, four{most, 0, most, 0}},
		{four{most, most, most, most}, four{0xf0000ffd, 0x88790878, 0x0110fdef, 0x010ffdf0}},
		{four{1 << 31, 1 << 31, 1 << 31, 1 << 31}, four{0x08000000, 0x40400444, 0x80808008, 0x00800008}},
	} {
		if got := quarter(c.x); got != c.want {
			t.Errorf("Quarter%x is %x, not %x", c.x, got, c.want)
		}
	}
}

func TestQuarterPlain(t *testing.T) {
	d := draws(1)
	for range 2000 {
		x := four{d.number(), d.number(), d.number(), d.number()}
		if got, want := quarter(x), plainQuarter(x); got != want {
			t.Errorf("Quarter%x is %x, not %x", x, got, want)
		}
	}
}

func TestBlockKnown(t *testing.T) {
	for _, c := range []struct {
		key     api.Seed
		counter uint32
		nonce   [12]byte
		want    string
	}{
		{api.Seed{}, 0, [12]byte{}, "76b8e0ada0f13d90405d6ae55386bd28bdd219b8a08ded1aa836efcc8b770dc7da41597c5157488d7724e03fb8d84a376a43b8f41518a11cc387b669b2ee6586"},
		{api.Seed{}, 1, [12]byte{}, "9f07e7be5551387a98ba977c732d080dcb0f29a048e3656912c6533e32ee7aed29b721769ce64e43d57133b074d839d531ed1f28510afb45ace10a1f4b794d6f"},
		{api.Seed{31: 1}, 1, [12]byte{}, "3aeb5224ecf849929b9d828db1ced4dd832025e8018b8160b82284f3c949aa5a8eca00bbb4a73bdad192b5c42f73f2fd4e273644c8b36125a64addeb006c13a0"},
		{api.Seed{1: 0xff}, 2, [12]byte{}, "72d54dfbf12ec44b362692df94137f328fea8da73990265ec1bbbea1ae9af0ca13b25aa26cb4a648cb9b9d1be65b2c0924a66c54d545ec1b7374f4872e99f096"},
		{api.Seed{}, 0, [12]byte{11: 2}, "c2c64d378cd536374ae204b9ef933fcd1a8b2288b3dfa49672ab765b54ee27c78a970e0e955c14f3a88e741b97c286f75f8fc299e8148362fa198a39531bed6d"},
		{counting(), 1, [12]byte{3: 9, 7: 0x4a}, "10f1e7e4d13b5915500fdd1fa32071c4c7d1f4c733c068030422aa9ac3d46c4ed2826446079faa0914c2d705d98b02a2b5129cd1de164eb9cbd083e8a2503c4e"},
		{counting(), math.MaxUint32, [12]byte{}, "1ce0deb8925fccea2d5587e850054559edcbbeb1a6c8e1c02c1e89abba08b01cad6048fe5ab5242ed6befbef6b4040fcb666a5f3858d942a912c4e8800301a42"},
		{filled(0xff), math.MaxUint32, [12]byte(bytes.Repeat([]byte{0xff}, 12)), "d72b21cfa4b6b0c41d61f62b8a11159c6a4f63bc56c2035796c7ad37811121bbec56d54a530f3a933dd28a50feb23bfaf64f405be985f3718bdf4683e96be749"},
	} {
		if got := cipher.Block(c.key, c.counter, c.nonce); !bytes.Equal(got[:], unhex(t, c.want)) {
			t.Errorf("Block(%x, %d, %x) is %x, not %s", c.key, c.counter, c.nonce, got, c.want)
		}
	}
}

func checkBlock(t *testing.T, key api.Seed, counter uint32, nonce [12]byte) {
	t.Helper()
	if got, want := cipher.Block(key, counter, nonce), plainBlock(key, counter, nonce); !bytes.Equal(got[:], want) {
		t.Errorf("Block(%x, %d, %x) is %x, not %x", key, counter, nonce, got, want)
	}
}

func TestBlockPlain(t *testing.T) {
	d := draws(2)
	for range 300 {
		checkBlock(t, d.key(), d.number(), d.nonce())
	}
	for _, counter := range []uint32{0, 1, 2, 255, 256, 1 << 16, 1<<31 - 1, 1 << 31, math.MaxUint32 - 1, math.MaxUint32} {
		checkBlock(t, api.Seed{}, counter, [12]byte{})
		checkBlock(t, d.key(), counter, d.nonce())
	}
}

// Each bit of the key, the counter and the nonce makes another block, and the one that the words ask for.
func TestBlockEachBit(t *testing.T) {
	d := draws(3)
	key, counter, nonce := d.key(), d.number(), d.nonce()
	seen := map[[64]byte]int{cipher.Block(key, counter, nonce): 1}
	for i := range 8 * len(key) {
		other := key
		other[i/8] ^= 1 << (i % 8)
		checkBlock(t, other, counter, nonce)
		seen[cipher.Block(other, counter, nonce)]++
	}
	for i := range 32 {
		checkBlock(t, key, counter^1<<i, nonce)
		seen[cipher.Block(key, counter^1<<i, nonce)]++
	}
	for i := range 8 * len(nonce) {
		other := nonce
		other[i/8] ^= 1 << (i % 8)
		checkBlock(t, key, counter, other)
		seen[cipher.Block(key, counter, other)]++
	}
	if want := 1 + 256 + 32 + 96; len(seen) != want {
		t.Errorf("%d blocks, not %d", len(seen), want)
	}
}

func TestXorKnown(t *testing.T) {
	const text = "Ladies and Gentlemen of the class of '99: If I could offer you only one tip for the future, sunscreen would be it."
	want := unhex(t, "6e2e359a2568f98041ba0728dd0d6981e97e7aec1d4360c20a27afccfd9fae0bf91b65c5524733ab8f593dabcd62b3571639d624e65152ab8f530c359f0861d8"+
		"07ca0dbf500d6a6156a38e088a22b65e52bc514d16ccf806818ce91ab77937365af90bbf74a35be6b40b8eedf2785e42874d")
	if got := cipher.Xor(counting(), 1, [12]byte{7: 0x4a}, []byte(text)); !bytes.Equal(got, want) {
		t.Errorf("Xor is %x, not %x", got, want)
	}
}

func TestXorEmpty(t *testing.T) {
	for _, b := range [][]byte{nil, {}, make([]byte, 0, 64)} {
		for _, counter := range []uint32{0, 1, math.MaxUint32} {
			if got := cipher.Xor(counting(), counter, [12]byte{}, b); len(got) != 0 {
				t.Errorf("Xor of nothing is %x", got)
			}
		}
	}
}

func TestXorLengths(t *testing.T) {
	d := draws(4)
	for _, counter := range []uint32{0, 1, 77, math.MaxUint32 - 1, math.MaxUint32} {
		for _, n := range []int{1, 2, 3, 4, 5, 31, 32, 33, 62, 63, 64, 65, 66, 127, 128, 129, 191, 192, 193, 256, 320, 333} {
			key, nonce, b := d.key(), d.nonce(), d.bytes(n)
			got, want := cipher.Xor(key, counter, nonce, b), plainXor(key, counter, nonce, b)
			if !bytes.Equal(got, want) {
				t.Errorf("Xor of %d bytes from %d on is %x, not %x", n, counter, got, want)
			}
			if again := cipher.Xor(key, counter, nonce, got); !bytes.Equal(again, b) {
				t.Errorf("Xor of %d bytes from %d on, twice, is %x, not %x", n, counter, again, b)
			}
		}
	}
}

// Of zeros, Xor is the blocks themselves, each by its own counter.
func TestXorBlocks(t *testing.T) {
	d := draws(5)
	key, nonce := d.key(), d.nonce()
	for _, counter := range []uint32{0, 1<<16 - 2, 1<<31 - 2, math.MaxUint32 - 2, math.MaxUint32} {
		got := cipher.Xor(key, counter, nonce, make([]byte, 6*64))
		for i := range 6 {
			block := cipher.Block(key, counter+uint32(i), nonce)
			if !bytes.Equal(got[64*i:64*i+64], block[:]) {
				t.Errorf("block %d from %d on is %x, not %x", i, counter, got[64*i:64*i+64], block)
			}
		}
	}
}

func TestXorMany(t *testing.T) {
	d := draws(6)
	key, nonce, b := d.key(), d.nonce(), d.bytes(api.MaxBytes+7)
	got := cipher.Xor(key, 5, nonce, b)
	if len(got) != len(b) || !bytes.Equal(cipher.Xor(key, 5, nonce, got), b) {
		t.Fatal("Xor twice is not nothing")
	}
	last := len(b) / 64 * 64
	if want := plainXor(key, 5+uint32(last/64), nonce, b[last:]); !bytes.Equal(got[last:], want) {
		t.Errorf("the end is %x, not %x", got[last:], want)
	}
}

func TestXorMemory(t *testing.T) {
	d := draws(7)
	key, nonce := d.key(), d.nonce()
	for _, n := range []int{0, 1, 63, 64, 65, 128, 200} {
		whole := d.bytes(n + 100)
		before := bytes.Clone(whole)
		b := whole[:n]
		first, second := cipher.Xor(key, 9, nonce, b), cipher.Xor(key, 9, nonce, b)
		if !bytes.Equal(whole, before) {
			t.Errorf("Xor of %d bytes changes what is handed in", n)
		}
		kept := bytes.Clone(second)
		scribble(first)
		if !bytes.Equal(whole, before) {
			t.Errorf("Xor of %d bytes answers what was handed in", n)
		}
		if !bytes.Equal(second, kept) {
			t.Errorf("Xor of %d bytes answers the same memory twice", n)
		}
		scribble(whole)
		if !bytes.Equal(second, kept) {
			t.Errorf("Xor of %d bytes keeps what was handed in", n)
		}
	}
}

// scribble writes over all of a list, its spare room too.
func scribble(b []byte) {
	b = b[:cap(b)]
	for i := range b {
		b[i] ^= 0x5a
	}
}
