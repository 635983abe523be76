package treekey_test

import (
	"encoding/binary"
	"math"
	"slices"

	"passkey/api"
	"passkey/treekey"
)

// outside are numbers below and above every height and leaf, among them some that become small as a byte.
var outside = []int{math.MinInt, -256, -16, -1, 17, 256, 257, 1 << 32, math.MaxInt}

// bytesOf returns the words with the most significant byte first.
func bytesOf(l ...uint64) []byte {
	var b []byte
	for _, w := range l {
		b = binary.BigEndian.AppendUint64(b, w)
	}
	return b
}

// from returns n numbers in ascending order, from first on.
func from(first uint64, n int) []uint64 {
	l := make([]uint64, n)
	for i := range l {
		l[i] = first + uint64(i)
	}
	return l
}

// signature returns a signature of the right shape, which no key has made.
func signature(height, leaf int) api.Signature {
	return api.Signature{Leaf: leaf, Chains: from(1<<63+5, 18), Path: from(0x0102030405060708, height)}
}

func copied(s api.Signature) api.Signature {
	return api.Signature{Leaf: s.Leaf, Chains: slices.Clone(s.Chains), Path: slices.Clone(s.Path)}
}

func same(a, b api.Signature) bool {
	return a.Leaf == b.Leaf && slices.Equal(a.Chains, b.Chains) && slices.Equal(a.Path, b.Path)
}

func isZero(s api.Signature) bool { return same(s, api.Signature{}) }

// signed returns what Public and Sign return, where both succeed.
func signed(seed uint64, height, leaf int, m uint64) (api.PublicKey, api.Signature) {
	k, _ := treekey.Public(seed, height)
	s, _ := treekey.Sign(seed, height, leaf, m)
	return k, s
}

// spoil overwrites the lists of s and the memory behind them.
func spoil(s api.Signature) {
	for _, l := range [][]uint64{s.Chains, s.Path} {
		l = l[:cap(l)]
		for i := range l {
			l[i] = 0xa5
		}
	}
}
