package seal_test

import (
	"bytes"
	"encoding/hex"
	"math"
	"testing"

	"passkey/api"
	"passkey/digest"
	"passkey/seal"
)

// TestStream is about P6.1. The expected bytes come from another implementation of the chapters 2 and 6.
func TestStream(t *testing.T) {
	tests := []struct {
		key, nonce uint64
		n          int
		want       string
	}{
		{0, 0, 0, ""},
		{0, 0, 1, "d8"},
		{0, 0, 7, "d8b7881553d226"},
		{0, 0, 8, "d8b7881553d226dd"},
		{0, 0, 9, "d8b7881553d226dd3b"},
		{0, 0, 17, "d8b7881553d226dd3b5d67c1e9cefcb19b"},
		{0x0123456789abcdef, 0xfedcba9876543210, 24, "66e792b10d8a60cc769a6c94fb7be6aec5fb316fbf264f9d"},
		{0xfedcba9876543210, 0x0123456789abcdef, 24, "2f716d8337943f86958ae8185d9b4b2181204a0b6d0d489a"},
		{1<<64 - 1, 1<<64 - 1, 9, "a70bb3fcfffd38bb20"},
		{1 << 63, 1, 7, "da327f798804df"},
		{1, 1 << 63, 1, "47"},
	}
	for _, x := range tests {
		if got := hex.EncodeToString(seal.Stream(x.key, x.nonce, x.n)); got != x.want {
			t.Errorf("Stream(%#x, %#x, %d) = %s, want %s", x.key, x.nonce, x.n, got, x.want)
		}
	}
}

// TestStreamIsOfBlocks is about P6.1: every length that is possible, with the functions of the layer below.
func TestStreamIsOfBlocks(t *testing.T) {
	var blocks []byte
	for i := range uint64(api.MaxData / 8) {
		blocks = append(blocks, bytesOf(digest.Mac(5, api.DomainStream, bytesOf(6, i)))...)
	}
	for n := range api.MaxData + 1 {
		if got := seal.Stream(5, 6, n); !bytes.Equal(got, blocks[:n]) {
			t.Errorf("Stream(5, 6, %d) = %x, want %x", n, got, blocks[:n])
		}
	}
	if got := digest.Sum(0, 0, blocks); got != 0x7c710dcf943e3643 {
		t.Errorf("the blocks of Stream(5, 6, ..) have the sum %#x, want that of another implementation", got)
	}
}

// TestStreamLimits is about P6.1: numbers below 0 and above MaxData.
func TestStreamLimits(t *testing.T) {
	for _, n := range []int{math.MinInt, -api.MaxData, -8, -1} {
		if got := seal.Stream(5, 6, n); len(got) != 0 {
			t.Errorf("Stream(5, 6, %d) = %x, want no bytes", n, got)
		}
	}
	want := seal.Stream(5, 6, 1024)
	for _, n := range []int{1025, 1032, 2048, 1 << 32, 1<<32 + 5, math.MaxInt - 7, math.MaxInt} {
		if got := seal.Stream(5, 6, n); len(got) != 1024 || !bytes.Equal(got, want) {
			t.Errorf("Stream(5, 6, %d) has %d bytes, want the 1024 bytes of Stream(5, 6, 1024)", n, len(got))
		}
	}
}

// TestStreamIsNewMemory is about R2.
func TestStreamIsNewMemory(t *testing.T) {
	first, second := seal.Stream(5, 6, 13), seal.Stream(5, 6, 13)
	want := bytes.Clone(second)
	spoil(first)
	if third := seal.Stream(5, 6, 13); !bytes.Equal(second, want) || !bytes.Equal(third, want) {
		t.Errorf("a change of one result of Stream made others %x and %x, want %x", second, third, want)
	}
}
