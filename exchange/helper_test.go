package exchange_test

import (
	"math/big"

	"passkey/api"
)

const (
	prime = 1<<61 - 1
	// half is the least secret with the exponent (prime-1)/2, the only exponent for which Public is -1.
	half = (prime - 5) / 2
)

// words are words at the limits of the prime, of its multiples and of 64 bits, and some others.
var words = []uint64{
	0, 1, 2, 3, 7, api.Generator, 0x5eed, 1<<32 - 1, 1 << 32,
	half - 1, half, half + 1, 1<<60 - 1, 1 << 60, 1<<60 + 1,
	prime - 5, prime - 4, prime - 3, prime - 2, prime - 1, prime, prime + 1, prime + 2, prime + 37,
	half + prime - 3, 2*prime - 7, 2*prime - 6, 2*prime - 1, 2 * prime, 2*prime + 1,
	1<<63 - 1, 1 << 63, 8*prime - 1, 8 * prime, 8*prime + 1, 1<<64 - 2, 1<<64 - 1,
	0x0123456789abcdef, 0xfedcba9876543210,
}

// modulo returns x modulo the prime.
func modulo(x *big.Int) uint64 {
	return new(big.Int).Mod(x, number(prime)).Uint64()
}

func number(w uint64) *big.Int { return new(big.Int).SetUint64(w) }

// isHalf says whether the public word of a secret is -1.
func isHalf(secret uint64) bool { return secret%(prime-3) == half }
