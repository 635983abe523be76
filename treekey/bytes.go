package treekey

import (
	"slices"

	"passkey/api"
	"passkey/digest"
)

const (
	// wordSize is the number of bytes of a word.
	wordSize = 8
	// keySize is the number of bytes of a key: its height and its root.
	keySize = 1 + wordSize
	// headSize is the number of bytes of a signature before its words: the leaf and the length of the path.
	headSize = 2
	// chainsSize is the number of bytes of the chains of a signature.
	chainsSize = wordSize * api.Chains
)

// EncodeKey returns the bytes of k.
func EncodeKey(k api.PublicKey) ([]byte, api.Errno) {
	if !isHeight(k.Height) {
		return nil, api.ErrRange
	}
	return append([]byte{byte(k.Height)}, digest.Words(k.Root)...), api.OK
}

// DecodeKey returns the key with the bytes b.
func DecodeKey(b []byte) (api.PublicKey, api.Errno) {
	if len(b) != keySize || !isHeight(int(b[0])) {
		return api.PublicKey{}, api.ErrSyntax
	}
	return api.PublicKey{Height: int(b[0]), Root: word(b[1:])}, api.OK
}

// EncodeSignature returns the bytes of s.
func EncodeSignature(s api.Signature) ([]byte, api.Errno) {
	if !hasLeaf(len(s.Path), s.Leaf) {
		return nil, api.ErrRange
	}
	if len(s.Chains) != api.Chains {
		return nil, api.ErrShape
	}
	head := []byte{byte(s.Leaf), byte(len(s.Path))}
	return slices.Concat(head, digest.Words(s.Chains...), digest.Words(s.Path...)), api.OK
}

// DecodeSignature returns the signature with the bytes b.
func DecodeSignature(b []byte) (api.Signature, api.Errno) {
	if len(b) < headSize {
		return api.Signature{}, api.ErrSyntax
	}
	leaf, height, rest := int(b[0]), int(b[1]), b[headSize:]
	if !hasLeaf(height, leaf) || len(rest) != chainsSize+wordSize*height {
		return api.Signature{}, api.ErrSyntax
	}
	// Each list is made of its own, so that the two share no memory.
	return api.Signature{Leaf: leaf, Chains: words(rest[:chainsSize]), Path: words(rest[chainsSize:])}, api.OK
}

// words returns the words of which b consists, as digest.Words writes them.
func words(b []byte) []uint64 {
	var l []uint64
	for w := range slices.Chunk(b, wordSize) {
		l = append(l, word(w))
	}
	return l
}

// word returns the word with the bytes b, the most significant byte first.
func word(b []byte) uint64 {
	var w uint64
	for _, x := range b {
		w = w<<8 | uint64(x)
	}
	return w
}
