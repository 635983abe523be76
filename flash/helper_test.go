package flash_test

import (
	"bytes"
	"testing"

	"passkey/api"
)

// sizes are sizes of pages: the limits, and some between them that are no powers of two.
var sizes = []int{512, 513, 1000, 8191, 8192}

// mixed returns n bytes in which each value occurs, not always in the same order.
func mixed(n, seed int) []byte {
	b := make([]byte, n)
	for i := range b {
		b[i] = byte(i*167 + i/256*31 + seed*73)
	}
	return b
}

// filled returns a flash with bytes that are not erased.
func filled(pageSize, pages int) api.Flash {
	return api.Flash{PageSize: pageSize, Bytes: mixed(pageSize*pages, pages)}
}

// clone returns f with memory of its own.
func clone(f api.Flash) api.Flash {
	return api.Flash{PageSize: f.PageSize, Bytes: bytes.Clone(f.Bytes)}
}

// same says whether two flashes are equal.
func same(f, g api.Flash) bool {
	return f.PageSize == g.PageSize && bytes.Equal(f.Bytes, g.Bytes)
}

// put returns f with the bytes b from number start on.
func put(f api.Flash, start int, b []byte) api.Flash {
	f = clone(f)
	copy(f.Bytes[start:], b)
	return f
}

// and returns the bytes that have the bits that are 1 in both.
func and(a, b []byte) []byte {
	l := make([]byte, len(a))
	for i := range l {
		l[i] = a[i] & b[i]
	}
	return l
}

// erased returns n erased bytes.
func erased(n int) []byte {
	return bytes.Repeat([]byte{0xff}, n)
}

// spoil overwrites b and the memory behind it.
func spoil(b []byte) {
	b = b[:cap(b)]
	for i := range b {
		b[i] = 0xa5
	}
}

// expect reports a result of Program or Erase that is not the expected one.
func expect(t *testing.T, what string, f api.Flash, left int, e api.Errno, want api.Flash, wantLeft int, wantErr api.Errno) {
	t.Helper()
	if e != wantErr || left != wantLeft {
		t.Errorf("%s returns the budget %d and %d, want %d and %d", what, left, e, wantLeft, wantErr)
	}
	if same(f, want) {
		return
	}
	if f.PageSize != want.PageSize || len(f.Bytes) != len(want.Bytes) {
		t.Errorf("%s returns %d bytes in pages of %d, want %d in pages of %d", what, len(f.Bytes), f.PageSize, len(want.Bytes), want.PageSize)
		return
	}
	for i, x := range want.Bytes {
		if f.Bytes[i] != x {
			t.Errorf("%s makes byte %d %#x, want %#x", what, i, f.Bytes[i], x)
			return
		}
	}
}

// faulty is a flash that is not valid, with the error of Validate.
type faulty struct {
	flash api.Flash
	want  api.Errno
}

// faults returns flashes that are not valid. If both errors apply, the size of the pages counts.
func faults() []faulty {
	var l []faulty
	for _, size := range []int{minInt, -8192, -512, -1, 0, 1, 511, 8193, 1 << 16, 1 << 60, 1 << 61, maxInt} {
		for _, n := range []int{0, 1, 511, 512, 1024, 8193, 1 << 16} {
			l = append(l, faulty{api.Flash{PageSize: size, Bytes: make([]byte, n)}, api.ErrRange})
		}
	}
	l = append(l, faulty{api.Flash{}, api.ErrRange})
	for _, size := range sizes {
		l = append(l, faulty{api.Flash{PageSize: size}, api.ErrShape})
		for _, n := range []int{0, 1, size - 1, size + 1, 2*size - 1, 2*size + 1, 7*size + size/2, 8*size - 1, 8*size + 1, 9 * size, 16 * size} {
			l = append(l, faulty{api.Flash{PageSize: size, Bytes: make([]byte, n)}, api.ErrShape})
		}
	}
	return l
}

const (
	maxInt = 1<<63 - 1
	minInt = -1 << 63
)
