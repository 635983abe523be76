package onetime

import "passkey/api"

const (
	// end is the position of the last value of a chain, and the greatest digit.
	end = api.Digits - 1
	// bitsPerDigit is the number of bits that make a digit from 0 to end.
	bitsPerDigit = 4
	// wordDigits is the number of digits of a word; the digits of its checksum follow them.
	wordDigits = 64 / bitsPerDigit
)

// digits has a digit for each chain of a leaf.
type digits [api.Chains]int

// Split returns the digits of m and those of its checksum.
func Split(m uint64) []int {
	d := split(m)
	return d[:]
}

func split(m uint64) digits {
	var d digits
	sum := 0
	for i := range wordDigits {
		d[i] = int(m >> (bitsPerDigit * (wordDigits - 1 - i)) & end)
		// A greater digit makes the checksum smaller: this keeps others from going forward in every chain.
		sum += end - d[i]
	}
	d[wordDigits] = sum / api.Digits
	d[wordDigits+1] = sum % api.Digits
	return d
}
