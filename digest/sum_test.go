package digest_test

import (
	"bytes"
	"testing"

	"passkey/digest"
)

const (
	key0 = 0x0706050403020100
	key1 = 0x0f0e0d0c0b0a0908
)

// ascendingSums are the sums of the bytes 0 to n - 1, for each n from 0 on, with the keys key0 and key1. They come from another implementation of SipHash-2-4.
var ascendingSums = []uint64{
	0x726fdb47dd0e0e31, 0x74f839c593dc67fd, 0x0d6c8009d9a94f5a, 0x85676696d7fb7e2d,
	0xcf2794e0277187b7, 0x18765564cd99a68d, 0xcbc9466e58fee3ce, 0xab0200f58b01d137,
	0x93f5f5799a932462, 0x9e0082df0ba9e4b0, 0x7a5dbbc594ddb9f3, 0xf4b32f46226bada7,
	0x751e8fbc860ee5fb, 0x14ea5627c0843d90, 0xf723ca908e7af2ee, 0xa129ca6149be45e5,
	0x3f2acc7f57c29bdb, 0x699ae9f52cbe4794, 0x4bc1b3f0968dd39c, 0xbb6dc91da77961bd,
	0xbed65cf21aa2ee98, 0xd0f2cbb02e3b67c7, 0x93536795e3a33e88, 0xa80c038ccd5ccec8,
	0xb8ad50c6f649af94, 0xbce192de8a85b8ea, 0x17d835b85bbb15f3, 0x2f2e6163076bcfad,
	0xde4daaaca71dc9a5, 0xa6a2506687956571, 0xad87a3535c49ef28, 0x32d892fad841c342,
	0x7127512f72f27cce, 0xa7f32346f95978e3, 0x12e0b01abb051238, 0x15e034d40fa197ae,
	0x314dffbe0815a3b4, 0x027990f029623981, 0xcadcd4e59ef40c4d, 0x9abfd8766a33735c,
	0x0e3ea96b5304a7d0, 0xad0c42d6fc585992, 0x187306c89bc215a9, 0xd4a60abcf3792b95,
	0xf935451de4f21df2, 0xa9538f0419755787, 0xdb9acddff56ca510, 0xd06c98cd5c0975eb,
	0xe612a3cb9ecba951, 0xc766e62cfcadaf96, 0xee64435a9752fe72, 0xa192d576b245165a,
	0x0a8787bf8ecb74b2, 0x81b3e73d20b49b6f, 0x7fa8220ba3b2ecea, 0x245731c13ca42499,
	0xb78dbfaf3a8d83bd, 0xea1ad565322a1a0b, 0x60e61c23a3795013, 0x6606d7e446282b93,
	0x6ca4ecb15c5f91e1, 0x9f626da15c9625f3, 0xe51b38608ef25f57, 0x958a324ceb064572,
}

// TestSumOfShortInputs is about P2.1: it has every length around the first eight complete words.
func TestSumOfShortInputs(t *testing.T) {
	for n, want := range ascendingSums {
		if got := digest.Sum(key0, key1, ascending(n)); got != want {
			t.Errorf("Sum of %d bytes = %#x, want %#x", n, got, want)
		}
	}
	if got := digest.Sum(key0, key1, nil); got != ascendingSums[0] {
		t.Errorf("Sum of nil = %#x, want %#x", got, ascendingSums[0])
	}
}

// TestSumOfLongInputs is about P2.1: the last word contains the length modulo 256.
func TestSumOfLongInputs(t *testing.T) {
	tests := []struct {
		n    int
		want uint64
	}{
		{255, 0xa9c169fec74db21a},
		{256, 0x999d0526d2a7bfd7},
		{257, 0x8a817b8d55b29748},
		{263, 0x86d801b865760792},
		{264, 0xe76e0db3fa0ee85c},
		{265, 0x899ec339a463fc50},
		{511, 0x969303d05e5af242},
		{512, 0x883b57c3e55ada0e},
		{513, 0x90b6017f2031622b},
		{65536, 0x8198936ae10d9342},
	}
	for _, x := range tests {
		if got := digest.Sum(key0, key1, ascending(x.n)); got != x.want {
			t.Errorf("Sum of %d bytes = %#x, want %#x", x.n, got, x.want)
		}
	}
}

// TestSumOfExtremes is about P2.1: keys and bytes at the ends of their ranges, keys in the other order, and zero bytes, which differ only by their number.
func TestSumOfExtremes(t *testing.T) {
	tests := []struct {
		k0, k1 uint64
		b      []byte
		want   uint64
	}{
		{0, 0, nil, 0x1e924b9d737700d7},
		{1<<64 - 1, 1<<64 - 1, nil, 0x35dd279ee86ce565},
		{1, 0, nil, 0x54e761ac4b1ca3de},
		{0, 1, nil, 0xc4235c5247d6521c},
		{1 << 63, 0, []byte{0x80}, 0x054fe7900fa182fd},
		{0, 1 << 63, []byte{0x80}, 0x997b8800dab9b35a},
		{key1, key0, []byte("abc"), 0xa3ad6a76813fbcb7},
		{1<<64 - 1, 0, repeated("\xff", 8), 0xd9ed40d616ce2c30},
		{0, 1<<64 - 1, repeated("\xff", 7), 0xd1030a0812355763},
		{0, 1<<64 - 1, repeated("\xff", 9), 0x7f23e46083a95d1c},
		{1, 2, make([]byte, 1), 0x3f7f7f034cc671d6},
		{1, 2, make([]byte, 2), 0x22110d4fb592c2d7},
		{1, 2, make([]byte, 7), 0xcfe599956f36250c},
		{1, 2, make([]byte, 8), 0xda6a5e17da3b77b0},
		{1, 2, make([]byte, 256), 0x9c2ae2e253279450},
	}
	for _, x := range tests {
		if got := digest.Sum(x.k0, x.k1, x.b); got != x.want {
			t.Errorf("Sum(%#x, %#x, %x) = %#x, want %#x", x.k0, x.k1, x.b, got, x.want)
		}
	}
}

// TestSumLeavesItsArgument is about R2 and R3: neither b nor the memory behind it changes, and neither counts beyond the length of b.
func TestSumLeavesItsArgument(t *testing.T) {
	for n, want := range ascendingSums {
		memory := append(ascending(n), repeated("\xa5", 16)...)
		before := bytes.Clone(memory)
		if got := digest.Sum(key0, key1, memory[:n]); got != want {
			t.Errorf("Sum of %d bytes with others behind = %#x, want %#x", n, got, want)
		}
		if !bytes.Equal(memory, before) {
			t.Errorf("Sum of %d bytes changed the memory to %x", n, memory)
		}
	}
}
