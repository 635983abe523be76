package digest

import "math/bits"

// The numbers of rounds that SipHash-2-4 is named after: for each word of the input, and at the end.
const (
	wordRounds  = 2
	finalRounds = 4
)

// state is the state of SipHash.
type state struct {
	v0, v1, v2, v3 uint64
}

func newState(k0, k1 uint64) state {
	return state{
		v0: k0 ^ 0x736f6d6570736575,
		v1: k1 ^ 0x646f72616e646f6d,
		v2: k0 ^ 0x6c7967656e657261,
		v3: k1 ^ 0x7465646279746573,
	}
}

// absorb processes the next word of the input.
func (s *state) absorb(m uint64) {
	s.v3 ^= m
	s.rounds(wordRounds)
	s.v0 ^= m
}

// finish returns the result after the last word.
func (s *state) finish() uint64 {
	s.v2 ^= 0xff
	s.rounds(finalRounds)
	return s.v0 ^ s.v1 ^ s.v2 ^ s.v3
}

func (s *state) rounds(n int) {
	for range n {
		s.round()
	}
}

func (s *state) round() {
	s.v0 += s.v1
	s.v1 = bits.RotateLeft64(s.v1, 13)
	s.v1 ^= s.v0
	s.v0 = bits.RotateLeft64(s.v0, 32)
	s.v2 += s.v3
	s.v3 = bits.RotateLeft64(s.v3, 16)
	s.v3 ^= s.v2
	s.v0 += s.v3
	s.v3 = bits.RotateLeft64(s.v3, 21)
	s.v3 ^= s.v0
	s.v2 += s.v1
	s.v1 = bits.RotateLeft64(s.v1, 17)
	s.v1 ^= s.v2
	s.v2 = bits.RotateLeft64(s.v2, 32)
}
