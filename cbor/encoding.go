package cbor

import (
	"bytes"
	"cmp"
	"math/bits"

	"passkey/api"
)

// First bytes of the items that have no argument.
const (
	byteFalse = 0xf4
	byteTrue  = 0xf5
	byteNull  = 0xf6
)

// A first byte contains the major type above its low 5 bits. These are the argument itself if they are less than wideArgument; otherwise the argument follows.
const (
	lowBits      = 5
	lowMask      = 1<<lowBits - 1
	wideArgument = 24
)

// argument returns the argument of the head of it.
func argument(it api.Item) uint64 {
	if hasData(it.Kind) {
		return uint64(len(it.Data))
	}
	return it.Number
}

// argumentSize returns how many bytes the argument n takes behind the first byte.
func argumentSize(n uint64) int {
	switch {
	case n < wideArgument:
		return 0
	case n < 1<<8:
		return 1
	case n < 1<<16:
		return 2
	case n < 1<<32:
		return 4
	}
	return 8
}

// appendItem appends the encoding of it, which has no error, to b.
func appendItem(b []byte, it api.Item) []byte {
	switch it.Kind {
	case api.ItemBool:
		return append(b, byteFalse+byte(it.Number))
	case api.ItemNull:
		return append(b, byteNull)
	}
	b = appendHead(b, it.Kind-api.ItemUint, argument(it))
	return append(b, it.Data...)
}

func appendHead(b []byte, major int, n uint64) []byte {
	first := byte(major << lowBits)
	size := argumentSize(n)
	if size == 0 {
		return append(b, first|byte(n))
	}
	b = append(b, first|byte(wideArgument+bits.TrailingZeros(uint(size))))
	for shift := 8 * (size - 1); shift >= 0; shift -= 8 {
		b = append(b, byte(n>>shift))
	}
	return b
}

// compareEncodings orders two items as keys of a map: a shorter encoding is smaller.
func compareEncodings(a, b api.Item) int {
	x, y := appendItem(nil, a), appendItem(nil, b)
	return cmp.Or(cmp.Compare(len(x), len(y)), bytes.Compare(x, y))
}
