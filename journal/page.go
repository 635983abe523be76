package journal

import (
	"bytes"

	"passkey/api"
	"passkey/digest"
	"passkey/flash"
)

const (
	// wordSize is the number of bytes of a word.
	wordSize = 8
	// headerSize is the number of bytes of a header: a generation and a check word.
	headerSize = 2 * wordSize
	// lengthSize is the number of bytes before a payload, which tell its length.
	lengthSize = 2
	// overhead is the number of bytes of a record beside its payload: its length before it, and a check word behind it.
	overhead = lengthSize + wordSize
	// maxGeneration is the greatest generation of a page.
	maxGeneration = 1 << 40
	// erased is a byte of which no bit was programmed.
	erased = 0xff
)

// header returns the first bytes of a page with this generation.
func header(g int) []byte {
	return digest.Words(uint64(g), checkWord(digest.Hash(api.DomainRecord, digest.Words(uint64(g)))))
}

// record returns the record with this payload on a page with this generation.
func record(g int, payload []byte) []byte {
	n := len(payload)
	b := make([]byte, 0, overhead+n)
	b = append(b, byte(n>>8), byte(n))
	b = append(b, payload...)
	return append(b, digest.Words(checkWord(digest.Mac(uint64(g), api.DomainRecord, payload)))...)
}

// checkWord returns the word that is stored for a hash. No such word consists of erased bytes, so that one that was not programmed is never right.
func checkWord(h uint64) uint64 {
	return h >> 1
}

// join returns the records with these payloads, one after another.
func join(g int, l [][]byte) []byte {
	var b []byte
	for _, payload := range l {
		b = append(b, record(g, payload)...)
	}
	return b
}

// split returns the payloads of the records with which b begins, and the bytes behind the last one.
func split(b []byte, g int) ([][]byte, []byte) {
	var l [][]byte
	for {
		payload := first(b, g)
		if len(payload) == 0 {
			return l, b
		}
		l = append(l, payload)
		b = b[overhead+len(payload):]
	}
}

// first returns the payload of the record with which b begins, or no bytes if b does not begin with one.
func first(b []byte, g int) []byte {
	if len(b) < overhead {
		return nil
	}
	n := int(b[0])<<8 | int(b[1])
	if n > len(b)-overhead {
		return nil
	}
	end := lengthSize + n
	// Without the third index, who appends to a payload would overwrite the records behind it.
	payload := b[lengthSize:end:end]
	if !isPayload(payload) || !bytes.HasPrefix(b, record(g, payload)) {
		return nil
	}
	return payload
}

// isPayload says whether a record can have the payload b.
func isPayload(b []byte) bool {
	return len(b) >= 1 && len(b) <= api.MaxRecord
}

// isErased says whether no bit of b was programmed.
func isErased(b []byte) bool {
	for _, x := range b {
		if x != erased {
			return false
		}
	}
	return true
}

// newest returns the page that is in use, with its generation, which is 0 if neither page is in order.
func newest(f api.Flash) (int, int) {
	g, h := generation(read(f, 0)), generation(read(f, 1))
	if h > g {
		return 1, h
	}
	return 0, g
}

// generation returns the generation of a page, or 0 if the page is not in order.
func generation(page []byte) int {
	var w uint64
	for _, x := range page[:wordSize] {
		w = w<<8 | uint64(x)
	}
	if w < 1 || w > maxGeneration || !bytes.HasPrefix(page, header(int(w))) {
		return 0
	}
	return int(w)
}

// read returns the bytes of a page that exists.
func read(f api.Flash, page int) []byte {
	b, _ := flash.Read(f, page, 0, f.PageSize)
	return b
}
