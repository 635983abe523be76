package seal_test

import (
	"encoding/binary"
	"encoding/hex"

	"passkey/api"
	"passkey/digest"
)

// ascending returns n bytes: 0, 1, 2 and so on, and after 255 again 0.
func ascending(n int) []byte {
	b := make([]byte, n)
	for i := range b {
		b[i] = byte(i)
	}
	return b
}

// unhex returns the bytes that the digits say.
func unhex(digits string) []byte {
	b, err := hex.DecodeString(digits)
	if err != nil {
		panic(err)
	}
	return b
}

// bytesOf returns the words with the most significant byte first.
func bytesOf(l ...uint64) []byte {
	var b []byte
	for _, w := range l {
		b = binary.BigEndian.AppendUint64(b, w)
	}
	return b
}

// boxOf returns a box with the right tag, also for bytes that are too many for Seal.
func boxOf(key, nonce uint64, bound, encrypted []byte) []byte {
	b := bytesOf(nonce, uint64(len(bound)))
	b = append(b, bound...)
	b = append(b, encrypted...)
	box := append(bytesOf(nonce), encrypted...)
	return append(box, bytesOf(digest.Mac(key, api.DomainTag, b))...)
}

// spoil overwrites b and the memory behind it.
func spoil(b []byte) {
	b = b[:cap(b)]
	for i := range b {
		b[i] = 0xa5
	}
}
