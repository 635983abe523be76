package treekey_test

import (
	"slices"
	"testing"

	"passkey/api"
	"passkey/digest"
	"passkey/onetime"
	"passkey/treekey"
)

// The expected words of these tests come from another implementation of the chapters 2 to 4.

// TestPublic is about P4.1 and P4.2.
func TestPublic(t *testing.T) {
	tests := []struct {
		seed   uint64
		height int
		want   uint64
	}{
		{0, 0, 0x1941cf0f6250c66d},
		{0, 1, 0x395f17085284fadf},
		{0, 2, 0xa32961db3e3e87ba},
		{0, 3, 0xa99a9d0888009b63},
		{0, 4, 0xd917a03de366ee7a},
		{1, 0, 0x714e1f65875fee22},
		{1, 4, 0x87f5c9ff58f755f9},
		{0x0123456789abcdef, 1, 0xd9258b7fdf9875b3},
		{0x0123456789abcdef, 2, 0x559490030d048fd8},
		{0x0123456789abcdef, 3, 0x57c5d22d603ebf81},
		{1<<64 - 1, 0, 0xec0debd499244a77},
		{1<<64 - 1, 4, 0xce67e5fd453f502d},
	}
	for _, x := range tests {
		want := api.PublicKey{Height: x.height, Root: x.want}
		if got, e := treekey.Public(x.seed, x.height); got != want || e != api.OK {
			t.Errorf("Public(%#x, %d) = %#x, %d, want %#x, OK", x.seed, x.height, got, e, want)
		}
	}
}

// TestTree is about P4.1, with the functions of the layers below: each level has a number of its own.
func TestTree(t *testing.T) {
	const seed = 0x5eed
	leaf := func(i int) uint64 { return onetime.Public(seed, i) }
	pair := func(level, left, right uint64) uint64 {
		return digest.Hash(api.DomainNode, digest.Words(level, left, right))
	}
	roots := []uint64{
		leaf(0),
		pair(1, leaf(0), leaf(1)),
		pair(2, pair(1, leaf(0), leaf(1)), pair(1, leaf(2), leaf(3))),
	}
	for height, want := range roots {
		if got, e := treekey.Public(seed, height); got.Root != want || e != api.OK {
			t.Errorf("the root of height %d = %#x, %d, want %#x, OK", height, got.Root, e, want)
		}
	}
}

// TestPublicOfWrongHeights is about P4.2.
func TestPublicOfWrongHeights(t *testing.T) {
	for _, height := range append([]int{api.MaxHeight + 1}, outside...) {
		if got, e := treekey.Public(1, height); got != (api.PublicKey{}) || e != api.ErrRange {
			t.Errorf("Public(1, %d) = %#x, %d, want zero, ErrRange", height, got, e)
		}
	}
}

// TestPath is about P4.3: the path goes from below, by the siblings on each level.
func TestPath(t *testing.T) {
	tests := []struct {
		seed         uint64
		height, leaf int
		want         []uint64
	}{
		{5, 0, 0, nil},
		{5, 1, 0, []uint64{0x6947b1b9ba0f8167}},
		{5, 1, 1, []uint64{0xf8f95bf5f28d15be}},
		{5, 2, 1, []uint64{0xf8f95bf5f28d15be, 0xb80ae81ab0155040}},
		{5, 3, 6, []uint64{0x162cb16aca365dc6, 0x8488133de99a9a26, 0xc1418ed69fa80aad}},
		{0, 4, 0, []uint64{0x13675387824511a0, 0xc2b6c1d8f2ea9116, 0x70bbd91c67b5cb1f, 0x809b19a774b32baa}},
		{0xfedcba9876543210, 4, 5, []uint64{0xef252462e72486c1, 0xc05045e662c2dab5, 0x508be1e10da0ad32, 0x0deda43d61551ef9}},
		{0xfedcba9876543210, 4, 10, []uint64{0xb4af67a8990f690e, 0x84703070079ed231, 0x6398dde629ec4e52, 0x7c3eb34c034728ae}},
		{1<<64 - 1, 4, 15, []uint64{0x81f143e075f0e637, 0x39cf3a42397ebcc7, 0x2aa433c9f983a34f, 0x978b5b9703e46687}},
	}
	for _, x := range tests {
		got, e := treekey.Sign(x.seed, x.height, x.leaf, 77)
		if got.Leaf != x.leaf || !slices.Equal(got.Path, x.want) || e != api.OK {
			t.Errorf("Sign(%#x, %d, %d, 77) has the leaf %d, the path %#x and error %d, want %d, %#x and OK", x.seed, x.height, x.leaf, got.Leaf, got.Path, e, x.leaf, x.want)
		}
	}
}

// TestChains is about P4.3: the chains are those of the leaf.
func TestChains(t *testing.T) {
	want := []uint64{
		0x83e70dc11ceae4a1, 0xa7b0b44558ae4977, 0x4252a4dfff16545d,
		0xcfd3c1fa947de689, 0x2e1c3ec64d5044b6, 0xbaddfe85e6d38c2f,
		0x3056028676f7d582, 0x4d2f0c651c20f4ee, 0xe6a37a48d9932257,
		0xa1d84280b212c068, 0x40870b745d444a0f, 0x8d0f5325a376f114,
		0xb5add4ffce7a1ab2, 0x72f317c944e9c007, 0x90a0d6bf1bc14db2,
		0x234d1f2e1ef8ca58, 0xa4374fb79e647f77, 0xd02b06c2470f2956,
	}
	if got, e := treekey.Sign(5, 2, 1, 0x0123456789abcdef); !slices.Equal(got.Chains, want) || e != api.OK {
		t.Errorf("Sign(5, 2, 1, 0x0123456789abcdef) has the chains %#x and error %d, want %#x and OK", got.Chains, e, want)
	}
	for leaf := range 16 {
		want := onetime.Sign(9, leaf, 1<<64-1)
		if got, e := treekey.Sign(9, 4, leaf, 1<<64-1); !slices.Equal(got.Chains, want) || e != api.OK {
			t.Errorf("the signature by leaf %d has the chains %#x and error %d, want %#x and OK", leaf, got.Chains, e, want)
		}
	}
}

// TestSignOutOfRange is about P4.3.
func TestSignOutOfRange(t *testing.T) {
	try := func(height, leaf int) {
		if got, e := treekey.Sign(1, height, leaf, 2); !isZero(got) || e != api.ErrRange {
			t.Errorf("Sign(1, %d, %d, 2) = %#x, %d, want zero, ErrRange", height, leaf, got, e)
		}
	}
	for _, height := range append([]int{api.MaxHeight + 1}, outside...) {
		for _, leaf := range append([]int{0, 1}, outside...) {
			try(height, leaf)
		}
	}
	for height := range api.MaxHeight + 1 {
		for _, leaf := range append([]int{1 << height, 1<<height + 1}, outside...) {
			try(height, leaf)
		}
	}
}

// TestSignIsNewMemory is about R2, and about the rule that no two lists of a result share memory.
func TestSignIsNewMemory(t *testing.T) {
	first, e := treekey.Sign(1, 4, 5, 3)
	second, _ := treekey.Sign(1, 4, 5, 3)
	want := copied(second)
	if e != api.OK || !same(first, want) {
		t.Fatalf("two equal calls of Sign = %#x and %#x, error %d", first, want, e)
	}
	_, _ = append(first.Chains, 0xa5), append(first.Path, 0xa5)
	if !same(first, want) {
		t.Errorf("what was appended to one list of a signature changed it to %#x", first)
	}
	spoil(first)
	if third, _ := treekey.Sign(1, 4, 5, 3); !same(second, want) || !same(third, want) {
		t.Errorf("a change of one signature made others %#x and %#x, want %#x", second, third, want)
	}
}

// TestVerifyOfSignatures is about P4.7, for every leaf of every height.
func TestVerifyOfSignatures(t *testing.T) {
	for _, seed := range []uint64{0, 0x5eed, 1<<64 - 1} {
		for height := range api.MaxHeight + 1 {
			for leaf := range 1 << height {
				for _, m := range []uint64{0, 0x0123456789abcdef, 1<<64 - 1} {
					k, s := signed(seed, height, leaf, m)
					if e := treekey.Verify(k, m, s); e != api.OK {
						t.Errorf("Verify of the signature of %#x by leaf %d of the seed %#x and height %d = %d, want OK", m, leaf, seed, height, e)
					}
				}
			}
		}
	}
}

// TestVerifyOfAnything is about P4.4: lists that no key has signed lead to a root too, and only to this one.
func TestVerifyOfAnything(t *testing.T) {
	tests := []struct {
		height int
		m      uint64
		s      api.Signature
		root   uint64
	}{
		{0, 0, api.Signature{Chains: make([]uint64, 18)}, 0x60ce0304ec910873},
		{0, 0, api.Signature{Chains: make([]uint64, 18), Path: []uint64{}}, 0x60ce0304ec910873},
		{1, 7, api.Signature{Leaf: 1, Chains: from(0, 18), Path: []uint64{9}}, 0x929f8aed9ac2d14e},
		{3, 0x0123456789abcdef, api.Signature{Leaf: 5, Chains: slices.Repeat([]uint64{1<<64 - 1}, 18), Path: []uint64{1, 2, 3}}, 0x7229d4bcbb30615a},
		{4, 1 << 63, api.Signature{Leaf: 0, Chains: from(0, 18), Path: []uint64{4, 3, 2, 1}}, 0xec5fb4e9ebdaff6b},
	}
	for _, x := range tests {
		before := copied(x.s)
		if e := treekey.Verify(api.PublicKey{Height: x.height, Root: x.root}, x.m, x.s); e != api.OK {
			t.Errorf("Verify of %#x by %#x with the root %#x = %d, want OK", x.m, x.s, x.root, e)
		}
		for i := range 64 {
			k := api.PublicKey{Height: x.height, Root: x.root ^ 1<<i}
			if e := treekey.Verify(k, x.m, x.s); e != api.ErrSignature {
				t.Errorf("Verify of %#x by %#x with the root %#x = %d, want ErrSignature", x.m, x.s, k.Root, e)
			}
		}
		if !same(x.s, before) {
			t.Errorf("Verify changed its argument %#x to %#x", before, x.s)
		}
	}
}

// TestVerifyOutOfRange is about P4.4: the height and the leaf count before the lengths of the lists.
func TestVerifyOutOfRange(t *testing.T) {
	try := func(height, leaf int) {
		right := signature(min(max(height, 0), 20), leaf)
		short := api.Signature{Leaf: leaf, Chains: right.Chains[:17], Path: from(0, 3)}
		for _, s := range []api.Signature{right, short, {Leaf: leaf}} {
			if e := treekey.Verify(api.PublicKey{Height: height, Root: 1}, 2, s); e != api.ErrRange {
				t.Errorf("Verify with height %d, leaf %d, %d chains and a path of %d = %d, want ErrRange", height, leaf, len(s.Chains), len(s.Path), e)
			}
		}
	}
	for _, height := range append([]int{api.MaxHeight + 1}, outside...) {
		for _, leaf := range append([]int{0, 1}, outside...) {
			try(height, leaf)
		}
	}
	for height := range api.MaxHeight + 1 {
		for _, leaf := range append([]int{1 << height, 1<<height + 1}, outside...) {
			try(height, leaf)
		}
	}
}

// TestVerifyOfWrongShapes is about P4.4 and P4.7: lengths count before the root.
func TestVerifyOfWrongShapes(t *testing.T) {
	const m = 0x0f1e2d3c4b5a6978
	for height := range api.MaxHeight + 1 {
		k, s := signed(1, height, 0, m)
		for _, k := range []api.PublicKey{k, {Height: height, Root: k.Root + 1}} {
			for n := range 40 {
				chains, path := copied(s), copied(s)
				chains.Chains = append(chains.Chains, s.Chains...)
				chains.Chains = append(chains.Chains, s.Chains...)[:n]
				path.Path = append(path.Path, make([]uint64, 40)...)[:n]
				if e := treekey.Verify(k, m, chains); n != 18 && e != api.ErrShape {
					t.Errorf("Verify with height %d and %d chains = %d, want ErrShape", height, n, e)
				}
				if e := treekey.Verify(k, m, path); n != height && e != api.ErrShape {
					t.Errorf("Verify with height %d and a path of %d = %d, want ErrShape", height, n, e)
				}
			}
		}
		if e := treekey.Verify(k, m, api.Signature{}); e != api.ErrShape {
			t.Errorf("Verify of no signature with height %d = %d, want ErrShape", height, e)
		}
	}
}

// TestVerifyOfForgeries is about P4.4: another word, leaf, chain, path or key is refused.
func TestVerifyOfForgeries(t *testing.T) {
	const m = 0x0f1e2d3c4b5a6978
	for height := range api.MaxHeight + 1 {
		k, s := signed(1, height, 1<<height-1, m)
		try := func(what string, k api.PublicKey, m uint64, s api.Signature) {
			if e := treekey.Verify(k, m, s); e != api.ErrSignature {
				t.Errorf("Verify of %s with height %d = %d, want ErrSignature", what, height, e)
			}
		}
		other, _ := treekey.Public(2, height)
		try("a signature by another key", other, m, s)
		for i := range 64 {
			try("another word", k, m^1<<i, s)
		}
		for leaf := range 1<<height - 1 {
			forged := copied(s)
			forged.Leaf = leaf
			try("a signature with another leaf", k, m, forged)
		}
		for i := range s.Chains {
			forged := copied(s)
			forged.Chains[i] ^= 1
			try("a signature with a changed chain", k, m, forged)
		}
		for i := range s.Path {
			forged := copied(s)
			forged.Path[i] ^= 1 << 63
			try("a signature with a changed path", k, m, forged)
		}
		if height > 1 {
			forged := copied(s)
			slices.Reverse(forged.Path)
			try("a signature with its path from above", k, m, forged)
		}
	}
}

// TestVerifyWithAnotherHeight is about P4.4: a signature belongs to a tree of one height.
func TestVerifyWithAnotherHeight(t *testing.T) {
	for height := range api.MaxHeight + 1 {
		_, s := signed(1, height, 1<<height-1, 2)
		for other := range api.MaxHeight + 1 {
			k, _ := treekey.Public(1, other)
			want := api.OK
			if other < height {
				want = api.ErrRange
			} else if other > height {
				want = api.ErrShape
			}
			if e := treekey.Verify(k, 2, s); e != want {
				t.Errorf("Verify of the signature by the last leaf of height %d with height %d = %d, want %d", height, other, e, want)
			}
		}
	}
}
