package treekey_test

import (
	"bytes"
	"math"
	"slices"
	"testing"

	"passkey/api"
	"passkey/treekey"
)

// TestBytesOfKeys is about P4.5, in both directions.
func TestBytesOfKeys(t *testing.T) {
	tests := []struct {
		k api.PublicKey
		b string
	}{
		{api.PublicKey{}, "\x00\x00\x00\x00\x00\x00\x00\x00\x00"},
		{api.PublicKey{Height: 1, Root: 1}, "\x01\x00\x00\x00\x00\x00\x00\x00\x01"},
		{api.PublicKey{Height: 2, Root: 1 << 63}, "\x02\x80\x00\x00\x00\x00\x00\x00\x00"},
		{api.PublicKey{Height: 3, Root: 0x0102030405060708}, "\x03\x01\x02\x03\x04\x05\x06\x07\x08"},
		{api.PublicKey{Height: 4, Root: 1<<64 - 1}, "\x04\xff\xff\xff\xff\xff\xff\xff\xff"},
	}
	for _, x := range tests {
		if got, e := treekey.EncodeKey(x.k); string(got) != x.b || e != api.OK {
			t.Errorf("EncodeKey(%#x) = %x, %d, want %x, OK", x.k, got, e, x.b)
		}
		b := []byte(x.b)
		if got, e := treekey.DecodeKey(b); got != x.k || e != api.OK {
			t.Errorf("DecodeKey(%x) = %#x, %d, want %#x, OK", x.b, got, e, x.k)
		}
		if string(b) != x.b {
			t.Errorf("DecodeKey changed its argument %x to %x", x.b, b)
		}
	}
}

// TestEncodeKeyOutOfRange is about P4.5.
func TestEncodeKeyOutOfRange(t *testing.T) {
	for _, height := range append([]int{api.MaxHeight + 1, math.MaxInt - 251}, outside...) {
		if got, e := treekey.EncodeKey(api.PublicKey{Height: height, Root: 1}); len(got) != 0 || e != api.ErrRange {
			t.Errorf("EncodeKey of height %d = %x, %d, want no bytes, ErrRange", height, got, e)
		}
	}
}

// TestDecodeKeyOfAnything is about P4.5, with every first byte and every length around the right one.
func TestDecodeKeyOfAnything(t *testing.T) {
	for first := range 256 {
		for n := range 20 {
			b := append([]byte{byte(first)}, bytesOf(from(7, 3)...)...)[:n]
			want, wantErr := api.PublicKey{Height: first, Root: 7}, api.OK
			if n != 9 || first > 4 {
				want, wantErr = api.PublicKey{}, api.ErrSyntax
			}
			if got, e := treekey.DecodeKey(b); got != want || e != wantErr {
				t.Errorf("DecodeKey(%x) = %#x, %d, want %#x, %d", b, got, e, want, wantErr)
			}
		}
	}
	if got, e := treekey.DecodeKey(nil); got != (api.PublicKey{}) || e != api.ErrSyntax {
		t.Errorf("DecodeKey(nil) = %#x, %d, want zero, ErrSyntax", got, e)
	}
}

// TestBytesOfSignatures is about P4.6, in both directions, for every leaf of every height.
func TestBytesOfSignatures(t *testing.T) {
	for height := range api.MaxHeight + 1 {
		for leaf := range 1 << height {
			s := signature(height, leaf)
			before := copied(s)
			want := slices.Concat([]byte{byte(leaf), byte(height)}, bytesOf(s.Chains...), bytesOf(s.Path...))
			got, e := treekey.EncodeSignature(s)
			if !bytes.Equal(got, want) || e != api.OK {
				t.Errorf("EncodeSignature(%#x) = %x, %d, want %x, OK", s, got, e, want)
			}
			if !same(s, before) {
				t.Errorf("EncodeSignature changed its argument %#x to %#x", before, s)
			}
			b := bytes.Clone(want)
			if got, e := treekey.DecodeSignature(b); !same(got, s) || e != api.OK {
				t.Errorf("DecodeSignature(%x) = %#x, %d, want %#x, OK", b, got, e, s)
			}
			if !bytes.Equal(b, want) {
				t.Errorf("DecodeSignature changed its argument %x to %x", want, b)
			}
		}
	}
}

// TestExample has the example of the chapter.
func TestExample(t *testing.T) {
	k, s := signed(1, 0, 0, 2)
	if len(s.Path) != 0 {
		t.Errorf("the path of a signature by a key of height 0 is %#x, want none", s.Path)
	}
	b, e := treekey.EncodeSignature(s)
	if len(b) != 146 || e != api.OK {
		t.Fatalf("the encoding of a signature by a key of height 0 is %x, %d, want 146 bytes, OK", b, e)
	}
	if got, e := treekey.DecodeSignature(b); e != api.OK || treekey.Verify(k, 2, got) != api.OK {
		t.Errorf("the signature of the bytes %x is %#x, %d, want one that Verify accepts, OK", b, got, e)
	}
}

// TestEncodeSignatureOutOfRange is about P4.6: the range counts before the number of chains.
func TestEncodeSignatureOutOfRange(t *testing.T) {
	try := func(height, leaf int) {
		s := signature(height, leaf)
		for _, n := range []int{18, 17, 0} {
			s.Chains = s.Chains[:n]
			if got, e := treekey.EncodeSignature(s); len(got) != 0 || e != api.ErrRange {
				t.Errorf("EncodeSignature with leaf %d, %d chains and a path of %d = %x, %d, want no bytes, ErrRange", leaf, n, height, got, e)
			}
		}
	}
	for _, height := range []int{5, 6, 63, 64, 255, 256, 257, 1000} {
		for _, leaf := range append([]int{0, 1, 15, 16}, outside...) {
			try(height, leaf)
		}
	}
	for height := range api.MaxHeight + 1 {
		for _, leaf := range append([]int{1 << height, 1<<height + 1}, outside...) {
			try(height, leaf)
		}
	}
}

// TestEncodeSignatureOfWrongShapes is about P4.6.
func TestEncodeSignatureOfWrongShapes(t *testing.T) {
	for height := range api.MaxHeight + 1 {
		for n := range 40 {
			s := signature(height, 0)
			s.Chains = from(0, n)
			if got, e := treekey.EncodeSignature(s); n != 18 && (len(got) != 0 || e != api.ErrShape) {
				t.Errorf("EncodeSignature with %d chains = %x, %d, want no bytes, ErrShape", n, got, e)
			}
		}
	}
}

// TestDecodeSignatureOfAnyHead is about P4.6: the two first bytes, before as many words as they ask for.
func TestDecodeSignatureOfAnyHead(t *testing.T) {
	words := bytesOf(from(0, 18+255)...)
	for height := range 256 {
		for leaf := range 256 {
			b := append([]byte{byte(leaf), byte(height)}, words[:8*(18+height)]...)
			want, wantErr := api.Signature{Leaf: leaf, Chains: from(0, 18), Path: from(18, height)}, api.OK
			if height > 4 || leaf >= 1<<height {
				want, wantErr = api.Signature{}, api.ErrSyntax
			}
			if got, e := treekey.DecodeSignature(b); !same(got, want) || e != wantErr {
				t.Errorf("DecodeSignature of leaf %d and height %d = %#x, %d, want %#x, %d", leaf, height, got, e, want, wantErr)
			}
		}
	}
}

// TestDecodeSignatureOfAnyLength is about P4.6: nothing may be missing, and nothing may follow.
func TestDecodeSignatureOfAnyLength(t *testing.T) {
	for height := range api.MaxHeight + 1 {
		b := append([]byte{0, byte(height)}, bytesOf(from(0, 30)...)...)
		for n := range b {
			got, e := treekey.DecodeSignature(b[:n])
			if n == 2+8*(18+height) {
				if e != api.OK {
					t.Errorf("DecodeSignature of height %d and %d bytes returns %d, want OK", height, n, e)
				}
			} else if !isZero(got) || e != api.ErrSyntax {
				t.Errorf("DecodeSignature of height %d and %d bytes = %#x, %d, want zero, ErrSyntax", height, n, got, e)
			}
		}
	}
	if got, e := treekey.DecodeSignature(nil); !isZero(got) || e != api.ErrSyntax {
		t.Errorf("DecodeSignature(nil) = %#x, %d, want zero, ErrSyntax", got, e)
	}
}

// TestBytesAreNewMemory is about R2, and about the rule that no two lists of a result share memory.
func TestBytesAreNewMemory(t *testing.T) {
	s := signature(4, 9)
	b, _ := treekey.EncodeSignature(s)
	before := bytes.Clone(b)
	got, _ := treekey.DecodeSignature(b)
	_ = append(got.Chains, 0xa5)
	if !same(got, s) {
		t.Errorf("what was appended to the chains of a signature changed it to %#x", got)
	}
	spoil(got)
	if again, _ := treekey.EncodeSignature(s); !bytes.Equal(b, before) || !bytes.Equal(again, before) {
		t.Errorf("a change of a signature made the bytes %x and %x, want %x", b, again, before)
	}
	got, _ = treekey.DecodeSignature(b)
	for i := range b {
		b[i] = 0xa5
	}
	if again, _ := treekey.EncodeSignature(s); !same(got, s) || !bytes.Equal(again, before) {
		t.Errorf("a change of the bytes made the signature %#x and the other bytes %x", got, again)
	}
	k := api.PublicKey{Height: 2, Root: 3}
	first, _ := treekey.EncodeKey(k)
	first[0] = 0xa5
	if second, _ := treekey.EncodeKey(k); second[0] != 2 {
		t.Errorf("a change of the bytes of a key made others %x", second)
	}
}
