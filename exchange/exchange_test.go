package exchange_test

import (
	"math/big"
	"testing"

	"passkey/api"
	"passkey/digest"
	"passkey/exchange"
)

// The expected words of these tests come from another implementation of the chapters 2 and 5.

// TestMul is about P5.1, with the example of the chapter.
func TestMul(t *testing.T) {
	tests := []struct{ a, b, want uint64 }{
		{0, 0, 0},
		{0, 1<<64 - 1, 0},
		{1, 1, 1},
		{37, 37, 1369},
		{1 << 60, 2, 1},
		{1 << 61, 1, 1},
		{1, prime - 1, prime - 1},
		{1, prime, 0},
		{1, prime + 1, 1},
		{prime - 1, 2, prime - 2},
		{prime - 1, prime - 1, 1},
		{prime - 2, prime - 3, 6},
		{prime, prime, 0},
		{prime + 1, prime + 1, 1},
		{1 << 32, 1 << 32, 8},
		{1 << 63, 3, 12},
		{1 << 63, 1 << 63, 16},
		{3037000500, 3037000500, 0x08abc294},
		{1<<64 - 1, 1, 7},
		{1<<64 - 1, 1<<64 - 1, 49},
		{1<<64 - 1, prime, 0},
		{0x0123456789abcdef, 0xfedcba9876543210, 0x0b46a89551204701},
	}
	for _, x := range tests {
		if got := exchange.Mul(x.a, x.b); got != x.want {
			t.Errorf("Mul(%#x, %#x) = %#x, want %#x", x.a, x.b, got, x.want)
		}
	}
}

// TestMulIsExact is about P5.1, for all pairs of words at limits.
func TestMulIsExact(t *testing.T) {
	for _, a := range words {
		for _, b := range words {
			want := modulo(new(big.Int).Mul(number(a), number(b)))
			if got := exchange.Mul(a, b); got != want {
				t.Errorf("Mul(%#x, %#x) = %#x, want %#x", a, b, got, want)
			}
		}
	}
}

// TestPower is about P5.1, with the example of the chapter.
func TestPower(t *testing.T) {
	tests := []struct{ a, n, want uint64 }{
		{0, 0, 1},
		{1, 0, 1},
		{37, 0, 1},
		{prime, 0, 1},
		{1<<64 - 1, 0, 1},
		{0, 1, 0},
		{0, 1<<64 - 1, 0},
		{1, 1<<64 - 1, 1},
		{37, 1, 37},
		{37, 2, 1369},
		{37, 3, 50653},
		{37, 11, 0x027817226572713d},
		{37, 12, 0x1b5b57f8a98a5dd3},
		{37, (prime - 1) / 2, prime - 1},
		{37, prime - 2, 0x1e45306eb3e45306},
		{37, prime - 1, 1},
		{37, prime, 37},
		{37, 1 << 63, 0x00000331d01712e1},
		{37, 1<<64 - 1, 0x088d4c21d6a7074e},
		{2, 60, 1 << 60},
		{2, 61, 1},
		{2, 62, 2},
		{prime - 1, 2, 1},
		{prime - 1, 3, prime - 1},
		{prime, 1, 0},
		{prime + 1, 1, 1},
		{1 << 63, 1, 4},
		{1<<64 - 1, 1, 7},
		{1<<64 - 1, 2, 49},
		{0x0123456789abcdef, 0xfedcba9876543210, 0x107da2db5a31b84a},
	}
	for _, x := range tests {
		if got := exchange.Power(x.a, x.n); got != x.want {
			t.Errorf("Power(%#x, %#x) = %#x, want %#x", x.a, x.n, got, x.want)
		}
	}
}

// TestPowerOfWords is about P5.1, for all pairs of words at limits.
func TestPowerOfWords(t *testing.T) {
	for _, a := range words {
		for _, n := range words {
			want := new(big.Int).Exp(number(a), number(n), number(prime)).Uint64()
			if got := exchange.Power(a, n); got != want {
				t.Errorf("Power(%#x, %#x) = %#x, want %#x", a, n, got, want)
			}
		}
	}
}

// TestPublic is about P5.2: the exponents go from 2 to Prime - 2 and then again.
func TestPublic(t *testing.T) {
	tests := []struct{ secret, want uint64 }{
		{0, 1369},
		{1, 50653},
		{2, 0x1c98f1},
		{0x5eed, 0x12b45181f733117e},
		{1 << 32, 0x1e1b0a5e2455827b},
		{half - 1, 0x01bacf914c1bacf9},
		{half, prime - 1},
		{half + 1, prime - 37},
		{half + prime - 3, prime - 1},
		{prime - 5, 0x1ba1014f199e631b},
		{prime - 4, 0x1e45306eb3e45306},
		{prime - 3, 1369},
		{prime - 2, 50653},
		{prime - 1, 0x1c98f1},
		{prime, 0x04221ad5},
		{2*(prime-3) - 1, 0x1e45306eb3e45306},
		{2 * (prime - 3), 1369},
		{8 * (prime - 3), 1369},
		{1 << 63, 0x1d90c364d6d08936},
		{0x0123456789abcdef, 0x1bb66922c95abeec},
		{1<<64 - 1, 0x1e1034590b365cb8},
	}
	for _, x := range tests {
		if got := exchange.Public(x.secret); got != x.want {
			t.Errorf("Public(%#x) = %#x, want %#x", x.secret, got, x.want)
		}
	}
}

// TestShared is about P5.3, with the public words at their limits among others.
func TestShared(t *testing.T) {
	tests := []struct{ secret, public, want uint64 }{
		{0, 2, 0x37d51fe85461a16d},
		{0, 3, 0xa7e476a7a528fcf5},
		{0, 37, 0x7afd415efaf702a7},
		{1, 2, 0xfff72f18f6685f7f},
		{1, prime - 2, 0x67359926ccbb355b},
		{2, prime - 2, 0x977080ea7cd100ca},
		{half, 2, 0x768df56ea5e3f5eb},
		{half, 37, 0x124160df59e6bac7},
		{prime - 4, 2, 0x00153ed0292cd2fa},
		{prime - 4, prime - 2, 0x76cab59653049e31},
		{0, 5, 0xaf3a87cddce0fce6},
		{prime - 3, 5, 0xaf3a87cddce0fce6},
		{0x5eed, 0x0123456789abcdef, 0x8de10c765575a217},
		{1<<64 - 1, 2, 0xefe09fd25b8f1279},
		{1<<64 - 1, prime - 2, 0x64c9b2310825ecd8},
		{1<<64 - 1, 0x1d90c364d6d08936, 0xcca3a112286b7832},
		{1 << 63, 0x1e1034590b365cb8, 0xcca3a112286b7832},
	}
	for _, x := range tests {
		if got, e := exchange.Shared(x.secret, x.public); got != x.want || e != api.OK {
			t.Errorf("Shared(%#x, %#x) = %#x, %d, want %#x, OK", x.secret, x.public, got, e, x.want)
		}
	}
}

// TestSharedIsAHash is about P5.3, with the functions of the layer below.
func TestSharedIsAHash(t *testing.T) {
	for _, public := range []uint64{2, 3, 37, 1 << 60, prime - 3, prime - 2} {
		for secret := range uint64(20) {
			want := digest.Hash(api.DomainToken, digest.Words(exchange.Power(public, 2+secret)))
			if got, e := exchange.Shared(secret, public); got != want || e != api.OK {
				t.Errorf("Shared(%d, %#x) = %#x, %d, want %#x, OK", secret, public, got, e, want)
			}
		}
	}
}

// TestSharedOutOfRange is about P5.3: a public word is not reduced before it is examined.
func TestSharedOutOfRange(t *testing.T) {
	publics := []uint64{0, 1, prime - 1, prime, prime + 1, prime + 2, prime + 37, 2*prime - 2, 2 * prime, 2*prime + 2, 1 << 62, 1<<63 - 1, 1 << 63, 1<<63 + 2, 1<<64 - 2, 1<<64 - 1}
	for _, public := range publics {
		for _, secret := range words {
			if got, e := exchange.Shared(secret, public); got != 0 || e != api.ErrRange {
				t.Errorf("Shared(%#x, %#x) = %#x, %d, want 0, ErrRange", secret, public, got, e)
			}
		}
	}
}

// TestAgreement is about P5.4: two secrets agree, unless the public word of one of them is -1.
func TestAgreement(t *testing.T) {
	for _, a := range words {
		for _, b := range words {
			first, e := exchange.Shared(a, exchange.Public(b))
			if (e == api.OK) == isHalf(b) {
				t.Errorf("Shared(%#x, Public(%#x)) returns %d", a, b, e)
			}
			if isHalf(a) || isHalf(b) {
				continue
			}
			if second, _ := exchange.Shared(b, exchange.Public(a)); first != second {
				t.Errorf("Shared(%#x, Public(%#x)) = %#x, but the other way %#x", a, b, first, second)
			}
		}
	}
}

// TestLawsOfMul is about P5.4.
func TestLawsOfMul(t *testing.T) {
	for _, a := range words {
		for _, b := range words {
			if x, y := exchange.Mul(a, b), exchange.Mul(b, a); x != y || x >= prime {
				t.Errorf("Mul(%#x, %#x) = %#x, but the other way %#x", a, b, x, y)
			}
			for _, c := range words {
				x, y := exchange.Mul(exchange.Mul(a, b), c), exchange.Mul(a, exchange.Mul(b, c))
				if x != y {
					t.Errorf("the product of %#x, %#x and %#x is %#x from the left and %#x from the right", a, b, c, x, y)
				}
			}
		}
	}
}

// TestLawOfPower is about P5.4, for all sums of exponents that do not overflow.
func TestLawOfPower(t *testing.T) {
	for _, a := range words {
		for _, m := range words {
			for _, n := range words {
				if m+n < m {
					continue
				}
				x, y := exchange.Power(a, m+n), exchange.Mul(exchange.Power(a, m), exchange.Power(a, n))
				if x != y {
					t.Errorf("Power(%#x, %#x + %#x) = %#x, but the product of the powers is %#x", a, m, n, x, y)
				}
			}
		}
	}
}
