package digest_test

import (
	"bytes"
	"math"
	"slices"
	"strings"
	"testing"

	"passkey/api"
	"passkey/digest"
)

// Each expected value comes from another implementation of SipHash-2-4.

// TestHash is about P2.2.
func TestHash(t *testing.T) {
	tests := []struct {
		domain int
		b      []byte
		want   uint64
	}{
		{0, nil, 0x1e924b9d737700d7},
		{api.DomainChain, []byte("abc"), 0x4f4bd7030974e1cb},
		{api.DomainRP, []byte("example.com"), 0x4adfa506fdac2c32},
		{api.DomainShare, []byte("12345678"), 0x9744bd288fa4678d},
		{-1, []byte("abc"), 0x138c82387e5e3562},
		{math.MaxInt, []byte("abc"), 0xb73f8bede4d018af},
		{math.MinInt, []byte("abc"), 0x3faefa5cd8cb688f},
	}
	for _, x := range tests {
		before := bytes.Clone(x.b)
		if got := digest.Hash(x.domain, x.b); got != x.want {
			t.Errorf("Hash(%d, %q) = %#x, want %#x", x.domain, x.b, got, x.want)
		}
		if !bytes.Equal(x.b, before) {
			t.Errorf("Hash(%d, %q) changed its argument to %q", x.domain, before, x.b)
		}
	}
}

// TestMac is about P2.2.
func TestMac(t *testing.T) {
	tests := []struct {
		key    uint64
		domain int
		b      []byte
		want   uint64
	}{
		{0, 0, nil, 0xc4235c5247d6521c},
		{7, api.DomainChain, []byte("abc"), 0x28c301707b8c09d1},
		{0x0123456789abcdef, api.DomainTag, []byte("12345678"), 0xd9b0eaf400d33ff8},
		{7, -1, []byte("abc"), 0x4fb01780f8a572ec},
		{7, -2, []byte("abc"), 0x43ddfba4dc5c8e91},
		{1<<64 - 1, math.MaxInt, []byte("abc"), 0x58cc4b594555051b},
		{7, math.MinInt, []byte("abc"), 0x98b753fb8ca6ab3f},
	}
	for _, x := range tests {
		before := bytes.Clone(x.b)
		if got := digest.Mac(x.key, x.domain, x.b); got != x.want {
			t.Errorf("Mac(%#x, %d, %q) = %#x, want %#x", x.key, x.domain, x.b, got, x.want)
		}
		if !bytes.Equal(x.b, before) {
			t.Errorf("Mac(%#x, %d, %q) changed its argument to %q", x.key, x.domain, before, x.b)
		}
	}
}

// TestHashAndMacAreSums is about P2.2, for every length around a complete word: a domain is a key word of Sum, modulo 2^64.
func TestHashAndMacAreSums(t *testing.T) {
	for _, domain := range []int{math.MinInt, -2, -1, 0, api.DomainChain, api.DomainShare, math.MaxInt} {
		for n := range 18 {
			b := ascending(n)
			if got, want := digest.Hash(domain, b), digest.Sum(uint64(domain), 0, b); got != want {
				t.Errorf("Hash(%d, %x) = %#x, want %#x", domain, b, got, want)
			}
			if got, want := digest.Mac(key0, domain, b), digest.Sum(key0, 1+uint64(domain), b); got != want {
				t.Errorf("Mac(%#x, %d, %x) = %#x, want %#x", key0, domain, b, got, want)
			}
		}
	}
}

// TestWords is about P2.3.
func TestWords(t *testing.T) {
	tests := []struct {
		l    []uint64
		want string
	}{
		{nil, ""},
		{[]uint64{}, ""},
		{[]uint64{0}, "\x00\x00\x00\x00\x00\x00\x00\x00"},
		{[]uint64{1}, "\x00\x00\x00\x00\x00\x00\x00\x01"},
		{[]uint64{0x0102030405060708}, "\x01\x02\x03\x04\x05\x06\x07\x08"},
		{[]uint64{1 << 63}, "\x80\x00\x00\x00\x00\x00\x00\x00"},
		{[]uint64{1<<64 - 1}, "\xff\xff\xff\xff\xff\xff\xff\xff"},
		{[]uint64{2, 1, 1}, "\x00\x00\x00\x00\x00\x00\x00\x02\x00\x00\x00\x00\x00\x00\x00\x01\x00\x00\x00\x00\x00\x00\x00\x01"},
		{[]uint64{0xfedcba9876543210, 0x0f1e2d3c4b5a6978}, "\xfe\xdc\xba\x98\x76\x54\x32\x10\x0f\x1e\x2d\x3c\x4b\x5a\x69\x78"},
	}
	for _, x := range tests {
		before := slices.Clone(x.l)
		if got := digest.Words(x.l...); string(got) != x.want {
			t.Errorf("Words(%#x) = %x, want %x", x.l, got, x.want)
		}
		if !slices.Equal(x.l, before) {
			t.Errorf("Words changed its arguments %#x to %#x", before, x.l)
		}
	}
	if got := digest.Words(); len(got) != 0 {
		t.Errorf("Words() = %x, want no bytes", got)
	}
	if got := digest.Words(slices.Repeat([]uint64{5}, 1000)...); !bytes.Equal(got, repeated("\x00\x00\x00\x00\x00\x00\x00\x05", 1000)) {
		t.Errorf("Words of 1000 words has %d bytes, want the bytes of 5 a thousand times", len(got))
	}
}

// TestWordsAreNewMemory is about R2.
func TestWordsAreNewMemory(t *testing.T) {
	first, second := digest.Words(1, 2), digest.Words(1, 2)
	want := bytes.Clone(second)
	for i := range first {
		first[i] = 0xa5
	}
	_ = append(first, 0xa5)
	if third := digest.Words(1, 2); !bytes.Equal(second, want) || !bytes.Equal(third, want) {
		t.Errorf("a change of one result of Words made others %x and %x, want %x", second, third, want)
	}
}

// TestDerive is about P2.4.
func TestDerive(t *testing.T) {
	tests := []struct {
		key   uint64
		label string
		n     int
		want  uint64
	}{
		{0, "", 0, 0xa5469978c4554fb8},
		{1, "chain", 0, 0x334f1efe391996c2},
		{1, "chain", 1, 0x058f0e409d85a094},
		{0x0123456789abcdef, "seed", 0x0102030405060708, 0x02e6ca91829d2ec2},
		{1, "chain", -1, 0xf51edb039ec41ff8},
		{1, "chain", math.MinInt, 0x251397aac919d34b},
		{1, "chain", math.MaxInt, 0x809f7223512af3aa},
		{1, "a\x00", 0, 0xcdb28b4e1e9fbdb1},
		{1, "a", 0, 0xb5fb699ac8a7cc2e},
		{1, "\xff\xc3\xa9", 300, 0x5dbdfa65f01f581c},
		{1, strings.Repeat("l", 256), 2, 0x103536f2c2937eee},
	}
	for _, x := range tests {
		if got := digest.Derive(x.key, x.label, x.n); got != x.want {
			t.Errorf("Derive(%#x, %q, %d) = %#x, want %#x", x.key, x.label, x.n, got, x.want)
		}
	}
}

// TestDeriveIsAMac is about P2.4, for labels of every length around a complete word.
func TestDeriveIsAMac(t *testing.T) {
	for size := range 18 {
		label := strings.Repeat("x", size)
		for _, n := range []int{math.MinInt, -1, 0, 1, 256, math.MaxInt} {
			b := append([]byte(label+"\x00"), digest.Words(uint64(n))...)
			want := digest.Mac(key1, api.DomainDerive, b)
			if got := digest.Derive(key1, label, n); got != want {
				t.Errorf("Derive(%#x, %q, %d) = %#x, want %#x", key1, label, n, got, want)
			}
		}
	}
}

// TestExamples has the examples of the chapter.
func TestExamples(t *testing.T) {
	if got := digest.Sum(0x0706050403020100, 0x0f0e0d0c0b0a0908, ascending(15)); got != 0xa129ca6149be45e5 {
		t.Errorf("P2.1: Sum of the bytes 0 to 14 = %#x, want 0xa129ca6149be45e5", got)
	}
	if got := digest.Words(1); !bytes.Equal(got, []byte{0, 0, 0, 0, 0, 0, 0, 1}) {
		t.Errorf("P2.3: Words(1) = %v, want 0, 0, 0, 0, 0, 0, 0, 1", got)
	}
}
