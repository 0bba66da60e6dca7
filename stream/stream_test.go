package stream_test

import (
	"bytes"
	"encoding/binary"
	"encoding/hex"
	"math"
	"slices"
	"testing"

	"offertory/api"
	"offertory/cipher"
	"offertory/stream"
)

const mixed = 0x04030201 // a tag of which each byte is another

func tags() []uint32 {
	return []uint32{0, 1, 7, 255, 256, 1 << 16, 1 << 24, mixed, 0xf1e2d3c4, 1 << 31, math.MaxUint32}
}

// plainBytes is the chapter's words: one whole block behind the other, then the first n of their bytes.
func plainBytes(s api.Seed, tag uint32, n int) []byte {
	nonce := [12]byte{byte(tag), byte(tag >> 8), byte(tag >> 16), byte(tag >> 24)}
	var out []byte
	for counter := uint32(0); len(out) < n; counter++ {
		block := cipher.Block(s, counter, nonce)
		out = append(out, block[:]...)
	}
	return out[:n]
}

func plainVector(s api.Seed, tag uint32, n int) []uint32 {
	b := plainBytes(s, tag, 4*n)
	var out []uint32
	for i := range n {
		out = append(out, binary.LittleEndian.Uint32(b[4*i:]))
	}
	return out
}

// draws are seeds that look drawn; each call has another.
type draws uint64

func (d *draws) seed() (s api.Seed) {
	for i := range s {
		*d = *d*6364136223846793005 + 1442695040888963407
		s[i] = byte(*d >> 56)
	}
	return s
}

func counting() (s api.Seed) {
	for i := range s {
		s[i] = byte(i)
	}
	return s
}

func filled(x byte) (s api.Seed) {
	for i := range s {
		s[i] = x
	}
	return s
}

func unhex(t *testing.T, text string) []byte {
	t.Helper()
	b, err := hex.DecodeString(text)
	if err != nil {
		t.Fatal(err)
	}
	return b
}

func TestNonce(t *testing.T) {
	for _, c := range []struct {
		tag  uint32
		want [12]byte
	}{
		{0, [12]byte{}},
		{1, [12]byte{1}},
		{255, [12]byte{255}},
		{256, [12]byte{0, 1}},
		{1 << 16, [12]byte{0, 0, 1}},
		{1 << 24, [12]byte{0, 0, 0, 1}},
		{1 << 31, [12]byte{0, 0, 0, 128}},
		{mixed, [12]byte{1, 2, 3, 4}},
		{0xf1e2d3c4, [12]byte{0xc4, 0xd3, 0xe2, 0xf1}},
		{math.MaxUint32, [12]byte{255, 255, 255, 255}},
	} {
		if got := stream.Nonce(c.tag); got != c.want {
			t.Errorf("Nonce(%x) is %x, not %x", c.tag, got, c.want)
		}
	}
}

func TestNonceEachBit(t *testing.T) {
	for i := range 32 {
		var want [12]byte
		want[i/8] = 1 << (i % 8)
		if got := stream.Nonce(1 << i); got != want {
			t.Errorf("Nonce(1 << %d) is %x, not %x", i, got, want)
		}
	}
}

// The texts come from another program's ChaCha20.
func TestBytesKnown(t *testing.T) {
	for _, c := range []struct {
		seed api.Seed
		tag  uint32
		want string
	}{
		{api.Seed{}, 0, "76b8e0ada0f13d90405d6ae55386bd28bdd219b8a08ded1aa836efcc8b770dc7da41597c5157488d7724e03fb8d84a376a43b8f41518a11cc387b669b2ee65869f07e7be5551387a98ba977c732d080dcb0f29a048e3656912c6533e32ee7aed29b721769ce64e43d57133b074d839d531ed1f28510afb45ace10a1f4b794d6f2d09"},
		{api.Seed{}, 1, "3db41d3aa0d329285de6f225e6e24bd59c9a17006943d5c9b680e3873bdc683a5819469899989690c281cd17c96159af0682b5b903468a61f50228cf09622b5a46f0f6efee15c8f1b198cb49d92b990867905159440cc723916dc0012826981039ce1766aa2542b05db3bd809ab142489d5dbfe1273e7399637b4b3213768aaa89b1"},
		{counting(), mixed, "71b897ecdc35419c0aa28f35eb854a1c5eb797eacbd0c7fbe644333fdfe68ff4871848e14880adf6c52fdbb6dcf6943fc5fd50d86e9f5124d9703b8726817aaf0544c53f5243d5fe39fd5bf68e3db3d0ecae16d08355a9e809b432e22bf62c73bb307cfd50994d94813afa47c28b2f53812123c52a9529dfa19352edfef2b946f247"},
		{filled(0xff), math.MaxUint32, "28d73ce8eb57a5e7bf2fbe34ad6ba1a7138e25682ba030a598337c3a1dca58dff9e9ff70fc67a9370b544bec97c50f49c359caa7ee51eec19f196fa322be0d1d39340dd1b337d16bd13940dca457692b49453d5a9d5b72e4dfea7c2835cd3707331dac6f6f10f4aea3d4edeb830b21d4ea83815a7e7081286dac04ecca98de1998bc"},
	} {
		want := unhex(t, c.want)
		if got := stream.Bytes(c.seed, c.tag, len(want)); !bytes.Equal(got, want) {
			t.Errorf("Bytes(%x, %x, %d) is %x, not %s", c.seed, c.tag, len(want), got, c.want)
		}
	}
}

func TestBytesKnownEnd(t *testing.T) {
	for _, c := range []struct {
		seed api.Seed
		tag  uint32
		want string
	}{
		{api.Seed{}, 0, "26386c88930475fe"},
		{counting(), mixed, "711df46ec9420ba3"},
		{filled(0xff), math.MaxUint32, "9340d81d0fddc310"},
	} {
		got := stream.Bytes(c.seed, c.tag, api.MaxBytes)
		if !bytes.HasSuffix(got, unhex(t, c.want)) {
			t.Errorf("Bytes(%x, %x, MaxBytes) does not end with %s", c.seed, c.tag, c.want)
		}
	}
}

func TestBytesNone(t *testing.T) {
	for _, n := range []int{math.MinInt, math.MinInt + 1, math.MinInt32, -api.MaxBytes - 1, -65, -64, -1, 0} {
		for _, tag := range tags() {
			if got := stream.Bytes(counting(), tag, n); len(got) != 0 {
				t.Errorf("Bytes(.., %x, %d) is %x", tag, n, got)
			}
		}
	}
}

func TestBytesLengths(t *testing.T) {
	d := draws(1)
	for _, n := range []int{1, 2, 3, 4, 31, 32, 33, 62, 63, 64, 65, 66, 127, 128, 129, 191, 192, 193, 256, 500, 1024, 4097} {
		for _, tag := range tags() {
			s := d.seed()
			if got, want := stream.Bytes(s, tag, n), plainBytes(s, tag, n); !bytes.Equal(got, want) {
				t.Errorf("Bytes(%x, %x, %d) is %x, not %x", s, tag, n, got, want)
			}
		}
	}
}

func TestBytesMost(t *testing.T) {
	d := draws(2)
	s := d.seed()
	whole := plainBytes(s, mixed, api.MaxBytes)
	for _, n := range []int{api.MaxBytes - 65, api.MaxBytes - 64, api.MaxBytes - 1, api.MaxBytes} {
		if got := stream.Bytes(s, mixed, n); !bytes.Equal(got, whole[:n]) {
			t.Errorf("Bytes of %d are others than the blocks', or are %d", n, len(got))
		}
	}
	for _, n := range []int{api.MaxBytes + 1, api.MaxBytes + 64, 2 * api.MaxBytes, math.MaxInt32, math.MaxInt - 1, math.MaxInt} {
		if got := stream.Bytes(s, mixed, n); !bytes.Equal(got, whole) {
			t.Errorf("Bytes of %d are others than those of MaxBytes, or are %d", n, len(got))
		}
	}
}

func TestBytesBegin(t *testing.T) {
	d := draws(3)
	s := d.seed()
	long := stream.Bytes(s, mixed, 300)
	for n := range len(long) {
		if got := stream.Bytes(s, mixed, n); len(got) != n || !bytes.HasPrefix(long, got) {
			t.Errorf("Bytes of %d are %x, which is not the beginning of %x", n, got, long)
		}
	}
}

// Each bit of the seed and of the tag makes other bytes, and those that the words ask for.
func TestBytesEachBit(t *testing.T) {
	d := draws(4)
	s := d.seed()
	seen := map[string]int{string(stream.Bytes(s, mixed, 70)): 1}
	check := func(s api.Seed, tag uint32) {
		got := stream.Bytes(s, tag, 70)
		if want := plainBytes(s, tag, 70); !bytes.Equal(got, want) {
			t.Errorf("Bytes(%x, %x, 70) is %x, not %x", s, tag, got, want)
		}
		seen[string(got)]++
	}
	for i := range 8 * len(s) {
		other := s
		other[i/8] ^= 1 << (i % 8)
		check(other, mixed)
	}
	for i := range 32 {
		check(s, mixed^1<<i)
	}
	if want := 1 + 256 + 32; len(seen) != want {
		t.Errorf("%d streams, not %d", len(seen), want)
	}
}

func TestVectorKnown(t *testing.T) {
	for _, c := range []struct {
		seed api.Seed
		tag  uint32
		want []uint32
	}{
		{api.Seed{}, 0, []uint32{0xade0b876, 0x903df1a0, 0xe56a5d40, 0x28bd8653}},
		{api.Seed{}, 1, []uint32{0x3a1db43d, 0x2829d3a0}},
		{counting(), mixed, []uint32{0xec97b871, 0x9c4135dc, 0x358fa20a}},
		{filled(0xff), math.MaxUint32, []uint32{0xe83cd728, 0xe7a557eb}},
	} {
		if got := stream.Vector(c.seed, c.tag, len(c.want)); !slices.Equal(got, c.want) {
			t.Errorf("Vector(%x, %x, %d) is %x, not %x", c.seed, c.tag, len(c.want), got, c.want)
		}
	}
}

func TestVectorKnownEnd(t *testing.T) {
	for _, c := range []struct {
		seed api.Seed
		tag  uint32
		want []uint32
	}{
		{api.Seed{}, 0, []uint32{0xcd11369a, 0x1860838d}},
		{counting(), mixed, []uint32{0x8b770296, 0xad227d8f}},
		{filled(0xff), math.MaxUint32, []uint32{0x4f4c6d58, 0xb131bd6c}},
	} {
		got := stream.Vector(c.seed, c.tag, api.MaxLen)
		if len(got) != api.MaxLen || !slices.Equal(got[api.MaxLen-2:], c.want) {
			t.Errorf("Vector(%x, %x, MaxLen) is %x, whose end is not %x", c.seed, c.tag, got, c.want)
		}
	}
}

func TestVectorNone(t *testing.T) {
	// Four times some of these is above 0 again, by 2^64.
	for _, n := range []int{math.MinInt, math.MinInt + 1, math.MinInt/4 - 1, 3*(math.MinInt/4) + 5, math.MinInt32, -api.MaxLen - 1, -16, -1, 0} {
		for _, tag := range tags() {
			if got := stream.Vector(counting(), tag, n); len(got) != 0 {
				t.Errorf("Vector(.., %x, %d) is %x", tag, n, got)
			}
		}
	}
}

func TestVectorLengths(t *testing.T) {
	d := draws(5)
	for _, n := range []int{1, 2, 3, 4, 7, 8, 9, 15, 16, 17, 31, 32, 33, 63, 64, 65, 100, 255, api.MaxLen} {
		for _, tag := range tags() {
			s := d.seed()
			if got, want := stream.Vector(s, tag, n), plainVector(s, tag, n); !slices.Equal(got, want) {
				t.Errorf("Vector(%x, %x, %d) is %x, not %x", s, tag, n, got, want)
			}
		}
	}
}

func TestVectorMost(t *testing.T) {
	d := draws(6)
	s := d.seed()
	want := plainVector(s, mixed, api.MaxLen)
	// Four times some of these is small, or below 0, by 2^64.
	for _, n := range []int{api.MaxLen, api.MaxLen + 1, 4 * api.MaxLen, api.MaxBytes, math.MaxInt32, math.MaxInt/4 + 1, math.MaxInt/2 + 2, math.MaxInt - 1, math.MaxInt} {
		if got := stream.Vector(s, mixed, n); !slices.Equal(got, want) {
			t.Errorf("Vector of %d is not that of MaxLen: it has %d", n, len(got))
		}
	}
}

// A vector's numbers are the stream's bytes by fours, the lowest first.
func TestVectorOfBytes(t *testing.T) {
	d := draws(7)
	for _, tag := range tags() {
		s := d.seed()
		b := stream.Bytes(s, tag, 4*api.MaxLen)
		for _, n := range []int{1, 16, 17, api.MaxLen} {
			var got []byte
			for _, x := range stream.Vector(s, tag, n) {
				got = append(got, byte(x), byte(x>>8), byte(x>>16), byte(x>>24))
			}
			if !bytes.Equal(got, b[:4*n]) {
				t.Errorf("Vector(%x, %x, %d) has the bytes %x, not %x", s, tag, n, got, b[:4*n])
			}
		}
	}
}

// The texts come from another program's ChaCha20.
func TestDeriveKnown(t *testing.T) {
	const ladder = 0x0807060504030201
	for _, c := range []struct {
		n    uint64
		tag  uint32
		want string
	}{
		{0, 0, "76b8e0ada0f13d90405d6ae55386bd28bdd219b8a08ded1aa836efcc8b770dc7"},
		{0, 7, "224ea2a4246f79ff731d04e4616684c0e1c98390fe24b3347f1278874bfefc9d"},
		{0, mixed, "afeee16621a191c1edfec7a40068fccf9d4ac26d43dbb5904021463c075b46ca"},
		{0, math.MaxUint32, "fe64dd9e120a995441dc9abb7f2976d3ae123892f3ade7bf669944debe4f0fcd"},
		{1, 0, "c5d30a7ce1ec119378c84f487d775a8542f13ece238a9455e8229e888de85bbd"},
		{1, 7, "b475acabcfeca0a60d3bdb2bfead916a0b73a292fcdeb3530b3b91980be1ee97"},
		{1, mixed, "289f70e1b2198799ab30ad8d1d92d0a9c2dd1874fb05dc11c5b34c64c109663c"},
		{1, math.MaxUint32, "5f6727d7a9deccbe30b41a04688c305814b437a9736132a34d199a2847250018"},
		{ladder, 0, "9612956c457553d547bce05dd83bc8d0270832f6687460358df1609934a1da15"},
		{ladder, 7, "c864dcf150d497f425935be7f8ff7f40277c11e678acc873cf12939be4469789"},
		{ladder, mixed, "52bf844302f232961b731a419d78393f07ac9da07d396d24a252ee11e48a87a1"},
		{ladder, math.MaxUint32, "b43a05daef76b3b2f82454f6ae49dc775c4b8f748a8adcc9792366cf5cf33a67"},
		{math.MaxUint64, 0, "3fa2ee6bda5341eb24428afc2ae53638099223f33bb44e43f3d5fe9c4a4d4016"},
		{math.MaxUint64, 7, "3f4af2aeb15d16f7ea4c1ae2977ac4736266254572eec30025fbeca15107018b"},
		{math.MaxUint64, mixed, "dae82c886585193b3fb4e03038f5c1bc664ee39dfbc3c85ccaea3e85bfef05a6"},
		{math.MaxUint64, math.MaxUint32, "6ca3b7b6e05e748fef3c0a746f032fe8413a3d5d18e867d08d2dc21dea6ad9ea"},
	} {
		if got := stream.Derive(c.n, c.tag); !bytes.Equal(got[:], unhex(t, c.want)) {
			t.Errorf("Derive(%x, %x) is %x, not %s", c.n, c.tag, got, c.want)
		}
	}
}

// Each bit of the number makes another seed, and the one that the words ask for.
func TestDeriveEachBit(t *testing.T) {
	seen := map[api.Seed]int{}
	for _, tag := range tags() {
		for i := range 64 {
			var from api.Seed
			from[i/8] = 1 << (i % 8)
			got := stream.Derive(1<<i, tag)
			if want := plainBytes(from, tag, 32); !bytes.Equal(got[:], want) {
				t.Errorf("Derive(1 << %d, %x) is %x, not %x", i, tag, got, want)
			}
			seen[got]++
		}
	}
	if want := 64 * len(tags()); len(seen) != want {
		t.Errorf("%d seeds, not %d", len(seen), want)
	}
}

func TestBytesMemory(t *testing.T) {
	for _, n := range []int{-1, 0, 1, 63, 64, 65, 200, api.MaxBytes, api.MaxBytes + 1} {
		first, second := stream.Bytes(counting(), mixed, n), stream.Bytes(counting(), mixed, n)
		before := bytes.Clone(second[:cap(second)])
		scribble(first)
		if !bytes.Equal(second[:cap(second)], before) {
			t.Errorf("Bytes of %d answers the same memory twice", n)
		}
		if third := stream.Bytes(counting(), mixed, n); !bytes.Equal(third, second) {
			t.Errorf("Bytes of %d keeps what it answered", n)
		}
	}
}

func TestVectorMemory(t *testing.T) {
	for _, n := range []int{-1, 0, 1, 16, 17, api.MaxLen, api.MaxLen + 1} {
		first, second := stream.Vector(counting(), mixed, n), stream.Vector(counting(), mixed, n)
		before := slices.Clone(second[:cap(second)])
		scribble(first)
		if !slices.Equal(second[:cap(second)], before) {
			t.Errorf("Vector of %d answers the same memory twice", n)
		}
		if third := stream.Vector(counting(), mixed, n); !slices.Equal(third, second) {
			t.Errorf("Vector of %d keeps what it answered", n)
		}
	}
}

// scribble writes over all of a list, its spare room too.
func scribble[T byte | uint32](list []T) {
	list = list[:cap(list)]
	for i := range list {
		list[i] ^= 0x5a
	}
}
