package journal_test

import (
	"bytes"
	"encoding/binary"
	"encoding/hex"
	"slices"
	"testing"

	"passkey/api"
	"passkey/digest"
	"passkey/journal"
)

const (
	maxInt = 1<<63 - 1
	minInt = -1 << 63
	// last is the greatest generation.
	last = 1 << 40
)

// sizes are sizes of pages: the limits, and some between them that are no powers of two.
var sizes = []int{512, 513, 1000, 8191, 8192}

// unhex returns the bytes that the digits say.
func unhex(digits string) []byte {
	b, err := hex.DecodeString(digits)
	if err != nil {
		panic(err)
	}
	return b
}

// mixed returns n bytes in which each value occurs, not always in the same order.
func mixed(n, seed int) []byte {
	b := make([]byte, n)
	for i := range b {
		b[i] = byte(i*167 + i/256*31 + seed*73)
	}
	return b
}

// erased returns n erased bytes.
func erased(n int) []byte {
	return bytes.Repeat([]byte{0xff}, n)
}

// words returns words with the most significant byte first.
func words(l ...uint64) []byte {
	var b []byte
	for _, w := range l {
		b = binary.BigEndian.AppendUint64(b, w)
	}
	return b
}

// header returns the header of a generation, also of one that no page can have.
func header(g uint64) []byte {
	return words(g, digest.Hash(api.DomainRecord, words(g))>>1)
}

// record returns a record, also with a payload that no record can have.
func record(g uint64, b []byte) []byte {
	l := binary.BigEndian.AppendUint16(nil, uint16(len(b)))
	l = append(l, b...)
	return append(l, words(digest.Mac(g, api.DomainRecord, b)>>1)...)
}

// records returns records one after another.
func records(g uint64, l ...[]byte) []byte {
	var b []byte
	for _, x := range l {
		b = append(b, record(g, x)...)
	}
	return b
}

// page returns a page that begins with the parts; the bytes behind them are erased.
func page(size int, parts ...[]byte) []byte {
	b := bytes.Join(parts, nil)
	return append(b, erased(size-len(b))...)
}

// flashOf returns a flash with these pages.
func flashOf(pages ...[]byte) api.Flash {
	return api.Flash{PageSize: len(pages[0]), Bytes: bytes.Join(pages, nil)}
}

// put returns f with the bytes b from number start on.
func put(f api.Flash, start int, b []byte) api.Flash {
	l := bytes.Clone(f.Bytes)
	copy(l[start:], b)
	return api.Flash{PageSize: f.PageSize, Bytes: l}
}

// mount returns the journal of a flash that has one.
func mount(t *testing.T, f api.Flash) api.Journal {
	t.Helper()
	j, e := journal.Mount(f)
	if e != api.OK {
		t.Fatalf("Mount returns %d", e)
	}
	return j
}

// with returns the journal of generation g on page 0 of two pages of this size, with these records.
func with(t *testing.T, size int, g uint64, l ...[]byte) api.Journal {
	t.Helper()
	return mount(t, flashOf(page(size, header(g), records(g, l...)), erased(size)))
}

// torn returns a journal with a record and, behind it, a byte that is not erased.
func torn(t *testing.T, size int) api.Journal {
	t.Helper()
	j := mount(t, flashOf(page(size, header(1), record(1, []byte("a")), []byte{0}), erased(size)))
	if !j.Torn {
		t.Fatal("the journal is not torn")
	}
	return j
}

// lengths returns a payload for each length.
func lengths(l ...int) [][]byte {
	var p [][]byte
	for i, n := range l {
		p = append(p, mixed(n, i))
	}
	return p
}

// full returns payloads whose records fill a page with this header but for free bytes.
func full(size, free int) [][]byte {
	var l [][]byte
	for rest := size - 16 - free; rest > 0; {
		n := min(rest, 266)
		if m := rest - n; m > 0 && m < 11 {
			n -= 11
		}
		l = append(l, mixed(n-10, rest))
		rest -= n
	}
	return l
}

// sameJournal says whether two journals are equal.
func sameJournal(j, k api.Journal) bool {
	return sameFlash(j.Flash, k.Flash) && j.Page == k.Page && j.Generation == k.Generation && j.Tail == k.Tail && j.Torn == k.Torn
}

// sameFlash says whether two flashes are equal.
func sameFlash(f, g api.Flash) bool {
	return f.PageSize == g.PageSize && bytes.Equal(f.Bytes, g.Bytes)
}

// sameList says whether two lists have equal byte strings.
func sameList(l, m [][]byte) bool {
	return slices.EqualFunc(l, m, bytes.Equal)
}

// spoil overwrites b and the memory behind it.
func spoil(b []byte) {
	b = b[:cap(b)]
	for i := range b {
		b[i] = 0xa5
	}
}

// expect reports a journal that is not the expected one.
func expect(t *testing.T, what string, j, want api.Journal) {
	t.Helper()
	if !sameFlash(j.Flash, want.Flash) {
		t.Errorf("%s returns %d bytes in pages of %d, which are not the expected ones, first at %d", what, len(j.Flash.Bytes), j.Flash.PageSize, difference(j.Flash.Bytes, want.Flash.Bytes))
	}
	j.Flash, want.Flash = api.Flash{}, api.Flash{}
	if !sameJournal(j, want) {
		t.Errorf("%s returns %+v, want %+v", what, j, want)
	}
}

// expectAll reports results of Format, Append or Rewrite that are not the expected ones.
func expectAll(t *testing.T, what string, j api.Journal, left int, e api.Errno, want api.Journal, wantLeft int, wantErr api.Errno) {
	t.Helper()
	if left != wantLeft || e != wantErr {
		t.Errorf("%s returns the budget %d and %d, want %d and %d", what, left, e, wantLeft, wantErr)
	}
	expect(t, what, j, want)
}

// difference returns the number of the first byte in which a and b differ.
func difference(a, b []byte) int {
	n := min(len(a), len(b))
	for i := range n {
		if a[i] != b[i] {
			return i
		}
	}
	return n
}

// faulty is a flash without a journal, with the error of Mount; Format returns the same one unless it is ErrNotFound.
type faulty struct {
	flash api.Flash
	want  api.Errno
}

// faults returns flashes that have no form in which they could have a journal.
func faults() []faulty {
	l := []faulty{{api.Flash{}, api.ErrRange}}
	good := page(512, header(1))
	for _, size := range []int{minInt, -512, -1, 0, 1, 256, 511, 8193, 1 << 61, maxInt} {
		for _, b := range [][]byte{nil, good, bytes.Repeat(good, 2), bytes.Repeat(good, 17)} {
			l = append(l, faulty{api.Flash{PageSize: size, Bytes: b}, api.ErrRange})
		}
	}
	for _, size := range sizes {
		b := page(9*size, header(1))
		for _, n := range []int{0, 1, size - 1, size, size + 1, 2*size - 1, 2*size + 1, 8*size + 1, 9 * size} {
			l = append(l, faulty{api.Flash{PageSize: size, Bytes: b[:n]}, api.ErrShape})
		}
	}
	return l
}
