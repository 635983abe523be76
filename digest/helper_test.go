package digest_test

import "strings"

// ascending returns n bytes: 0, 1, 2 and so on, and after 255 again 0.
func ascending(n int) []byte {
	b := make([]byte, n)
	for i := range b {
		b[i] = byte(i)
	}
	return b
}

func repeated(b string, n int) []byte { return []byte(strings.Repeat(b, n)) }
