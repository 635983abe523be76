package onetime_test

import (
	"math"
	"slices"
	"testing"

	"passkey/api"
	"passkey/digest"
	"passkey/onetime"
)

// The expected words of these tests come from another implementation of the chapter.

// TestRun is about P3.2, with positions within a chain and outside it.
func TestRun(t *testing.T) {
	tests := []struct {
		leaf, chain, from, to int
		x, want               uint64
	}{
		{0, 0, 0, 1, 0, 0xfc76bdd63263ed9e},
		{0, 0, 0, 15, 0, 0x27e60656ac6b9c4f},
		{3, 7, 4, 9, 0x0123456789abcdef, 0x80f6a8dd56e11106},
		{3, 7, 14, 15, 1<<64 - 1, 0xfc980d3fa024c9bb},
		{256, 1, 0, 1, 0, 0xcf2d142c70b8ee77},
		{1, 256, 0, 1, 0, 0x75ddf8495d2a8731},
		{-1, -2, 0, 3, 5, 0xa55b6c4d88f8ee4a},
		{math.MinInt, math.MaxInt, 5, 6, 1, 0xe696341a35eee4c5},
		{math.MaxInt, math.MinInt, 0, 15, 1 << 63, 0xcedcba8345df1354},
		{1, 2, -1, 2, 9, 0x7138035f2199a0e3},
		{1, 2, 0, 2, 9, 0x7138035f2199a0e3},
		{1, 2, math.MinInt, 1, 9, 0x7df316972680fb6b},
		{1, 2, 13, 15, 9, 0x491647386864590b},
		{1, 2, 13, 16, 9, 0x491647386864590b},
		{1, 2, 13, math.MaxInt, 9, 0x491647386864590b},
		{1, 2, 0, math.MaxInt, 9, 0xc4fa815e70fbbb3a},
		{1, 2, math.MinInt, math.MaxInt, 9, 0xc4fa815e70fbbb3a},
	}
	for _, x := range tests {
		if got := onetime.Run(x.leaf, x.chain, x.from, x.to, x.x); got != x.want {
			t.Errorf("Run(%d, %d, %d, %d, %#x) = %#x, want %#x", x.leaf, x.chain, x.from, x.to, x.x, got, x.want)
		}
	}
}

// TestRunNowhere is about P3.2: no step leads to a position that is not behind the first one.
func TestRunNowhere(t *testing.T) {
	tests := [][2]int{{0, 0}, {7, 7}, {15, 15}, {9, 8}, {15, 0}, {0, -1}, {-1, 0}, {-5, -2}, {-2, -5}, {3, -1},
		{15, 16}, {15, math.MaxInt}, {16, 20}, {20, 16}, {1000, 2}, {math.MinInt, 0}, {math.MinInt, -1}, {math.MaxInt, math.MinInt}}
	for _, x := range tests {
		if got := onetime.Run(4, 5, x[0], x[1], 77); got != 77 {
			t.Errorf("Run(4, 5, %d, %d, 77) = %#x, want 77", x[0], x[1], got)
		}
	}
}

// TestRunInParts is about P3.2: a chain may be followed in parts, each step of which is a hash.
func TestRunInParts(t *testing.T) {
	x := uint64(0x5eed)
	for p := range 15 {
		next := digest.Hash(api.DomainChain, digest.Words(6, 17, uint64(p), x))
		if got := onetime.Run(6, 17, p, p+1, x); got != next {
			t.Fatalf("Run(6, 17, %d, %d, %#x) = %#x, want %#x", p, p+1, x, got, next)
		}
		if got, want := onetime.Run(6, 17, p, 15, x), onetime.Run(6, 17, p+1, 15, next); got != want {
			t.Errorf("Run from %d to the end = %#x, want that from %d, %#x", p, got, p+1, want)
		}
		x = next
	}
}

// TestSecret is about P3.3.
func TestSecret(t *testing.T) {
	tests := []struct {
		seed        uint64
		leaf, chain int
		want        uint64
	}{
		{0, 0, 0, 0xb66bc9010153d866},
		{1, 0, 0, 0xa4ff6a6a4aeb91e6},
		{0, 1, 0, 0xa41356080acfec0a},
		{0, 0, 1, 0xf99dab7cc15a9c5c},
		{0xfedcba9876543210, 9, 17, 0x026c0e7650c5dc57},
		{1<<64 - 1, -1, -1, 0xa0107ceab88516c7},
		{1 << 63, math.MaxInt, math.MinInt, 0xad529ef02e7496d2},
	}
	for _, x := range tests {
		if got := onetime.Secret(x.seed, x.leaf, x.chain); got != x.want {
			t.Errorf("Secret(%#x, %d, %d) = %#x, want %#x", x.seed, x.leaf, x.chain, got, x.want)
		}
	}
}

// TestPublic is about P3.3.
func TestPublic(t *testing.T) {
	tests := []struct {
		seed uint64
		leaf int
		want uint64
	}{
		{0, 0, 0x1941cf0f6250c66d},
		{1, 0, 0x714e1f65875fee22},
		{0, 1, 0x13675387824511a0},
		{0xfedcba9876543210, 15, 0x2303120afc00f31f},
		{1<<64 - 1, -1, 0xeec5d02e37dd9fd2},
		{1 << 63, math.MaxInt, 0xa5756e6297ad4570},
		{5, math.MinInt, 0xf9086098f28f99d1},
	}
	for _, x := range tests {
		if got := onetime.Public(x.seed, x.leaf); got != x.want {
			t.Errorf("Public(%#x, %d) = %#x, want %#x", x.seed, x.leaf, got, x.want)
		}
	}
}

// TestSign is about P3.4.
func TestSign(t *testing.T) {
	tests := []struct {
		seed uint64
		leaf int
		m    uint64
		want []uint64
	}{
		{0, 0, 0, []uint64{
			0xb66bc9010153d866, 0xf99dab7cc15a9c5c, 0xe44c21523980b707,
			0xae09089c8e839758, 0x99e4b470698efffc, 0xd224b921f01f23e5,
			0x0b165231b0d7dffe, 0x86bada53c70d0de5, 0xcd5cf79868bd25c1,
			0x327356675fb71eab, 0x380aeeee27e4c955, 0x4cc442e093a639b5,
			0x99a7fa5ed879b19d, 0x8fbe741960103fd8, 0xc41b1a660e96eed5,
			0x11d25693eba77ac9, 0x30e9acab69af56a2, 0x042e229948b02ada,
		}},
		{1, 2, 0x0123456789abcdef, []uint64{
			0xe4e65e28a15355a6, 0x9a4b0d9e42bd6239, 0x2b4345a0fb9deab2,
			0xf7406bd6f07c843c, 0xef28b1082f648ce2, 0x82b133ca3262b3f9,
			0x2c8425524784e978, 0xb0930a85f2f29f14, 0x10b3d664391128ff,
			0x545c0ebed03d0e91, 0xe8089d9afe839154, 0x76bad0e1029ea91e,
			0x2bff75f5cfd95473, 0x8df4f5d2d9b91eba, 0xfc5b882aeead075c,
			0xc5ba6804645a5b0c, 0x92ccfe4de2e5f41d, 0xe6db1489742e976b,
		}},
		{1<<64 - 1, -1, 1<<64 - 1, []uint64{
			0x14bf6f5dbf50fc21, 0xe6cbc86a8c1332b6, 0x71c40b54f4a41a68,
			0x7b44f89fd3d661be, 0xbe4ae53133f85c1d, 0x82cd52f3f6f0db43,
			0x031467ecf0fe40cd, 0x1d5a1323c8a01441, 0x0d2dbbe2e819c9a5,
			0xece32eb32c182b18, 0x9ab71273742c569f, 0xe71b85bc095bc093,
			0x56e69ed146b7b9dc, 0x5acf42ca53089c3c, 0x0365caeee10f9e49,
			0xbfed53192033e723, 0x3b06b6811b23c3eb, 0x1a93e2505e9bfeee,
		}},
	}
	for _, x := range tests {
		if got := onetime.Sign(x.seed, x.leaf, x.m); !slices.Equal(got, x.want) {
			t.Errorf("Sign(%#x, %d, %#x) = %#x, want %#x", x.seed, x.leaf, x.m, got, x.want)
		}
	}
}

// TestSignIsNewMemory is about R2.
func TestSignIsNewMemory(t *testing.T) {
	first, second := onetime.Sign(1, 2, 3), onetime.Sign(1, 2, 3)
	want := slices.Clone(second)
	for i := range first {
		first[i] = 0xa5
	}
	if third := onetime.Sign(1, 2, 3); !slices.Equal(second, want) || !slices.Equal(third, want) {
		t.Errorf("a change of one result of Sign made others %#x and %#x, want %#x", second, third, want)
	}
}

// TestRecoverOfAnything is about P3.5: lists that no key has signed have a public word too.
func TestRecoverOfAnything(t *testing.T) {
	ascending, descending := make([]uint64, 18), make([]uint64, 18)
	for i := range 18 {
		ascending[i], descending[i] = uint64(i), 1<<64-1-uint64(i)
	}
	tests := []struct {
		leaf int
		m    uint64
		s    []uint64
		want uint64
	}{
		{0, 0, make([]uint64, 18), 0x60ce0304ec910873},
		{7, 0x0123456789abcdef, ascending, 0x136c0afa3c901bea},
		{-1, 1<<64 - 1, slices.Repeat([]uint64{1<<64 - 1}, 18), 0x10553453b9b38152},
		{math.MinInt, 1, descending, 0x5307db04424979c2},
	}
	for _, x := range tests {
		before := slices.Clone(x.s)
		if got, e := onetime.Recover(x.leaf, x.m, x.s); got != x.want || e != api.OK {
			t.Errorf("Recover(%d, %#x, %#x) = %#x, %d, want %#x, OK", x.leaf, x.m, x.s, got, e, x.want)
		}
		if !slices.Equal(x.s, before) {
			t.Errorf("Recover changed its argument %#x to %#x", before, x.s)
		}
	}
}

// TestRecoverOfWrongLengths is about P3.5.
func TestRecoverOfWrongLengths(t *testing.T) {
	s := onetime.Sign(1, 2, 3)
	for _, l := range [][]uint64{nil, {}, s[:1], s[:16], s[:17], append(slices.Clone(s), 0), append(slices.Clone(s), s...)} {
		if got, e := onetime.Recover(2, 3, l); got != 0 || e != api.ErrShape {
			t.Errorf("Recover of %d values = %#x, %d, want 0, ErrShape", len(l), got, e)
		}
	}
}

// TestRecoverOfSignatures is about P3.6.
func TestRecoverOfSignatures(t *testing.T) {
	for _, seed := range []uint64{0, 1, 0x5eed, 1<<64 - 1} {
		for _, leaf := range []int{math.MinInt, -1, 0, 1, 15, math.MaxInt} {
			public := onetime.Public(seed, leaf)
			for _, m := range []uint64{0, 1, 1 << 63, 0x0123456789abcdef, 1<<64 - 1} {
				s := onetime.Sign(seed, leaf, m)
				if got, e := onetime.Recover(leaf, m, s); got != public || e != api.OK {
					t.Errorf("Recover of the signature of %#x by leaf %d of the seed %#x = %#x, %d, want %#x, OK", m, leaf, seed, got, e, public)
				}
			}
		}
	}
}

// TestRecoverOfForgeries is about P3.5 and P3.6: another leaf, word or value results in another public word.
func TestRecoverOfForgeries(t *testing.T) {
	const m = 0x0f1e2d3c4b5a6978
	public, s := onetime.Public(1, 2), onetime.Sign(1, 2, m)
	try := func(what string, leaf int, m uint64, s []uint64) {
		if got, e := onetime.Recover(leaf, m, s); got == public || e != api.OK {
			t.Errorf("Recover of %s = %#x, %d, want another word than %#x, OK", what, got, e, public)
		}
	}
	try("the signature with another leaf", 3, m, s)
	for i := range 64 {
		try("the signature with another word", 2, m^1<<i, s)
	}
	for i := range s {
		forged := slices.Clone(s)
		forged[i] ^= 1
		try("a changed signature", 2, m, forged)
	}
}
