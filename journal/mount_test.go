package journal_test

import (
	"bytes"
	"fmt"
	"testing"

	"passkey/api"
	"passkey/digest"
	"passkey/journal"
)

// TestGoldenPage is about P8.1, with bytes that another implementation calculated.
func TestGoldenPage(t *testing.T) {
	for _, x := range []struct {
		g            int
		head, record string
		payload      []byte
	}{
		{1, "00000000000000012966ce79f048bd94", "0001612ab44e5a7c009168", []byte("a")},
		{2, "0000000000000002003ed1fc16b42652", "00030001024d3ba505c642f097", []byte{0, 1, 2}},
		{last, "00000100000000003fd1589e7ec833f3", "", nil},
	} {
		f := flashOf(page(512, unhex(x.head), unhex(x.record)), erased(512))
		want := api.Journal{Flash: f, Generation: x.g, Tail: 16 + len(x.record)/2}
		j, e := journal.Mount(f)
		if e != api.OK {
			t.Errorf("Mount of generation %d returns %d", x.g, e)
		}
		expect(t, fmt.Sprintf("Mount of generation %d", x.g), j, want)
		if l := journal.Records(j); len(x.record) > 0 && !sameList(l, [][]byte{x.payload}) {
			t.Errorf("Records of generation %d = %x, want %x", x.g, l, x.payload)
		}
	}
}

// TestMount is about P8.2: where the records end, on each page, for flashes with up to eight pages.
func TestMount(t *testing.T) {
	for _, size := range sizes {
		for _, l := range [][][]byte{nil, lengths(1), lengths(256), lengths(3, 1, 2), lengths(255, 1), lengths(20, 20, 20, 20), full(size, 0), full(size, 1), full(size, 10), full(size, 11)} {
			b := page(size, header(7), records(7, l...))
			tail := 16
			for _, x := range l {
				tail += 10 + len(x)
			}
			for pages := 2; pages <= 8; pages++ {
				f := flashOf(b, mixed(size, 1))
				f.Bytes = append(f.Bytes, bytes.Repeat(page(size, header(9)), pages-2)...)
				what := fmt.Sprintf("Mount of %d records in pages of %d", len(l), size)
				expect(t, what, mount(t, f), api.Journal{Flash: f, Page: 0, Generation: 7, Tail: tail})
				copy(f.Bytes, mixed(size, 1))
				copy(f.Bytes[size:], b)
				j := mount(t, f)
				expect(t, what, j, api.Journal{Flash: f, Page: 1, Generation: 7, Tail: tail})
				if got := journal.Records(j); !sameList(got, l) {
					t.Errorf("Records = %x, want %x", got, l)
				}
			}
		}
	}
}

// TestMountNewest is about P8.2: the greater generation counts, and page 0 if both are equal.
func TestMountNewest(t *testing.T) {
	for _, x := range []struct {
		g, h uint64
		page int
	}{
		{1, 1, 0}, {1, 2, 1}, {2, 1, 0}, {255, 256, 1}, {256, 255, 0}, {last, last, 0}, {last - 1, last, 1}, {last, last - 1, 0}, {1, last, 1}, {last, 1, 0}, {1 << 32, 3, 0}, {3, 1 << 32, 1},
		{0, 1, 1}, {1, 0, 0}, {last + 1, 1, 1}, {1, last + 1, 0}, {1 << 63, 5, 1}, {5, 1<<64 - 1, 0},
	} {
		f := flashOf(page(512, header(x.g), record(x.g, []byte("zero"))), page(512, header(x.h), record(x.h, []byte("one"))))
		want, payload := api.Journal{Flash: f, Page: 0, Generation: int(x.g), Tail: 30}, "zero"
		if x.page == 1 {
			want, payload = api.Journal{Flash: f, Page: 1, Generation: int(x.h), Tail: 29}, "one"
		}
		j := mount(t, f)
		expect(t, fmt.Sprintf("Mount of the generations %d and %d", x.g, x.h), j, want)
		if l := journal.Records(j); !sameList(l, [][]byte{[]byte(payload)}) {
			t.Errorf("Records of the generations %d and %d = %q, want %q", x.g, x.h, l, payload)
		}
	}
}

// TestHeaderNotInOrder is about P8.1 and P8.2: a header with a wrong bit, or with a generation out of range.
func TestHeaderNotInOrder(t *testing.T) {
	refuse := func(what string, b []byte) {
		bad := page(512, b, record(1, []byte("a")))
		for _, f := range []api.Flash{flashOf(bad, bad), flashOf(bad, erased(512)), flashOf(erased(512), bad), flashOf(bad, erased(512), page(512, header(1)))} {
			if j, e := journal.Mount(f); e != api.ErrNotFound || !sameJournal(j, api.Journal{}) {
				t.Errorf("Mount with %s returns generation %d, %d, want the zero journal, ErrNotFound", what, j.Generation, e)
			}
		}
		good := page(512, header(1))
		if j := mount(t, flashOf(bad, good)); j.Page != 1 || j.Generation != 1 {
			t.Errorf("Mount with %s finds page %d, generation %d, want 1, 1", what, j.Page, j.Generation)
		}
		if j := mount(t, flashOf(good, bad)); j.Page != 0 || j.Generation != 1 {
			t.Errorf("Mount with %s finds page %d, generation %d, want 0, 1", what, j.Page, j.Generation)
		}
	}
	for _, g := range []uint64{1, 2, 300, last} {
		for bit := range 128 {
			b := header(g)
			b[bit/8] ^= 1 << (bit % 8)
			refuse(fmt.Sprintf("a header of %d with a wrong bit %d", g, bit), b)
		}
		refuse("a check word that is not shifted", words(g, digest.Hash(api.DomainRecord, words(g))))
		refuse("a check word of another generation", append(words(g), header(g + 1)[8:]...))
		refuse("a check word that is not programmed", words(g, 1<<64-1))
	}
	for _, g := range []uint64{0, last + 1, last * 2, 1 << 63, 1<<64 - 1} {
		refuse(fmt.Sprintf("generation %d", g), header(g))
	}
	refuse("no header", nil)
	refuse("zeroes", make([]byte, 16))
	refuse("erased bytes", erased(16))
}

// TestMountFaults is about P8.2: flashes that cannot have a journal; the first error counts.
func TestMountFaults(t *testing.T) {
	for _, x := range faults() {
		if j, e := journal.Mount(x.flash); e != x.want || !sameJournal(j, api.Journal{}) {
			t.Errorf("Mount of %d bytes in pages of %d returns generation %d, %d, want the zero journal, %d", len(x.flash.Bytes), x.flash.PageSize, j.Generation, e, x.want)
		}
	}
	for _, size := range sizes {
		f := flashOf(erased(size))
		if _, e := journal.Mount(f); e != api.ErrShape {
			t.Errorf("Mount of one erased page returns %d, want ErrShape", e)
		}
		for pages := 2; pages <= 8; pages++ {
			f.Bytes = append(f.Bytes, erased(size)...)
			if _, e := journal.Mount(f); e != api.ErrNotFound {
				t.Errorf("Mount of %d erased pages returns %d, want ErrNotFound", pages, e)
			}
		}
	}
}

// TestNotARecord is about P8.1 and P8.2: the records end where the bytes are not one.
func TestNotARecord(t *testing.T) {
	size, g := 1024, uint64(5)
	front := records(g, []byte("a"), []byte("bc"))
	refuse := func(what string, b []byte, isTorn bool) {
		t.Helper()
		f := flashOf(page(size, header(g), front, b), erased(size))
		j := mount(t, f)
		expect(t, "Mount with "+what, j, api.Journal{Flash: f, Generation: 5, Tail: 39, Torn: isTorn})
		if l := journal.Records(j); !sameList(l, [][]byte{[]byte("a"), []byte("bc")}) {
			t.Errorf("Records with %s = %x", what, l)
		}
	}
	payload := []byte("payload")
	right := record(g, payload)
	for bit := range 8 * len(right) {
		b := bytes.Clone(right)
		b[bit/8] ^= 1 << (bit % 8)
		refuse(fmt.Sprintf("a wrong bit %d", bit), b, true)
	}
	for n := 1; n < len(right); n++ {
		refuse(fmt.Sprintf("the first %d bytes of a record", n), right[:n], true)
	}
	refuse("an empty payload", record(g, nil), true)
	refuse("an empty payload and a record", append(record(g, nil), right...), true)
	refuse("a payload that is too long", record(g, mixed(257, 1)), true)
	refuse("a payload that is far too long", record(g, mixed(900, 1)), true)
	refuse("a record of another generation", record(g+1, payload), true)
	refuse("a record with the number of the first generation", record(1, payload), true)
	refuse("a check word that is not shifted", append(right[:9:9], words(digest.Mac(g, api.DomainRecord, payload))...), true)
	refuse("a check word that is a hash", append(right[:9:9], words(digest.Hash(api.DomainRecord, payload)>>1)...), true)
	refuse("a check word of another domain", append(right[:9:9], words(digest.Mac(g, api.DomainRecord+1, payload)>>1)...), true)
	refuse("a check word of the record with its length", append(right[:9:9], words(digest.Mac(g, api.DomainRecord, right[:9])>>1)...), true)
	refuse("a length with its least significant byte first", append([]byte{7, 0}, right[2:]...), true)
	refuse("a gap before a record", append([]byte{0xff}, right...), true)
	refuse("erased bytes before a record", append(erased(17), right...), true)
	refuse("zeroes", make([]byte, 20), true)
	refuse("nothing", nil, false)
	refuse("erased bytes", erased(100), false)
	refuse("the last byte of the page", page(size-39, erased(size-40), []byte{0xfe}), true)
}

// TestRecordsWithinPage is about P8.2: a record may end with its page, but not behind it.
func TestRecordsWithinPage(t *testing.T) {
	for _, size := range sizes {
		for n := 1; n <= 256; n += 51 {
			for over := range n + 10 {
				l := full(size, n+10-over)
				first := header(3)
				first = append(first, records(3, l...)...)
				tail := len(first)
				first = append(first, record(3, mixed(n, 2))...)
				f := api.Flash{PageSize: size, Bytes: append(first, erased(3*size-len(first))...)}
				j := mount(t, f)
				want := api.Journal{Flash: f, Generation: 3, Tail: tail, Torn: true}
				if over == 0 {
					want.Tail, want.Torn = size, false
					l = append(l, mixed(n, 2))
				}
				expect(t, fmt.Sprintf("Mount with a record that ends %d bytes behind a page of %d", over, size), j, want)
				if got := journal.Records(j); !sameList(got, l) {
					t.Errorf("there are %d records, want %d", len(got), len(l))
				}
			}
		}
	}
}

// TestTorn is about P8.2: one bit behind the tail, wherever it is on the page, but not one on another page.
func TestTorn(t *testing.T) {
	clean := flashOf(page(512, header(1), record(1, []byte("a"))), page(512, header(2), record(2, []byte("abc"))), erased(512))
	if j := mount(t, clean); j.Torn || j.Page != 1 || j.Tail != 29 {
		t.Fatalf("Mount returns %+v", j)
	}
	for i := range 3 * 512 {
		f := put(clean, i, []byte{clean.Bytes[i] &^ 0x10})
		if i >= 512 && i < 512+29 {
			continue
		}
		if j := mount(t, f); j.Torn != (i >= 512 && i < 1024) || j.Tail != 29 {
			t.Errorf("with byte %d programmed, Torn is %t and Tail %d", i, j.Torn, j.Tail)
		}
	}
}

// TestGenuine is about P8.3: a journal with another field is not genuine, and no function works with it.
func TestGenuine(t *testing.T) {
	good := mount(t, flashOf(page(512, header(4), record(4, []byte("a"))), page(512, header(3), record(3, []byte("abc"))), page(512, header(9))))
	bad := []api.Journal{{}, {Flash: good.Flash}, {Generation: 1, Tail: 16}}
	for _, page := range []int{minInt, -1, 1, 2, 3, maxInt} {
		j := good
		j.Page = page
		bad = append(bad, j)
	}
	for _, g := range []int{minInt, -4, 0, 1, 3, 5, 9, last, maxInt} {
		j := good
		j.Generation = g
		bad = append(bad, j)
	}
	for _, tail := range []int{minInt, -1, 0, 16, 26, 28, 29, 511, 512, 513, 1024, maxInt} {
		j := good
		j.Tail = tail
		bad = append(bad, j)
	}
	j := good
	j.Torn = true
	bad = append(bad, j)
	j = torn(t, 512)
	j.Torn = false
	bad = append(bad, j, api.Journal{Flash: good.Flash, Page: 1, Generation: 3, Tail: 29}, api.Journal{Flash: good.Flash, Page: 2, Generation: 9, Tail: 16})
	for i := range 27 {
		j = good
		j.Flash = put(good.Flash, i, []byte{^good.Flash.Bytes[i]})
		bad = append(bad, j)
	}
	for _, x := range faults() {
		bad = append(bad, api.Journal{Flash: x.flash, Generation: 1, Tail: 16})
	}
	bad = append(bad, api.Journal{Flash: flashOf(erased(512), erased(512)), Tail: 16})
	for i, j := range bad {
		refuseAll(t, fmt.Sprintf("journal %d, %d %d %d %t", i, j.Page, j.Generation, j.Tail, j.Torn), j)
	}
	if journal.Room(good) != 256 || len(journal.Records(good)) != 1 {
		t.Error("the genuine journal is refused")
	}
}

// refuseAll reports a function that works with a journal that is not genuine, or that returns another error.
func refuseAll(t *testing.T, what string, j api.Journal) {
	t.Helper()
	if l := journal.Records(j); len(l) != 0 {
		t.Errorf("%s: Records = %x, want none", what, l)
	}
	if n := journal.Room(j); n != 0 {
		t.Errorf("%s: Room = %d, want 0", what, n)
	}
	for _, budget := range []int{minInt, -1, 0, 1, 20000} {
		for _, b := range [][]byte{nil, []byte("b"), mixed(256, 1), mixed(257, 1)} {
			k, left, e := journal.Append(j, b, budget)
			expectAll(t, what+": Append", k, left, e, api.Journal{}, 0, api.ErrState)
			k, left, e = journal.Rewrite(j, [][]byte{b}, budget)
			expectAll(t, what+": Rewrite", k, left, e, api.Journal{}, 0, api.ErrState)
		}
		k, left, e := journal.Rewrite(j, nil, budget)
		expectAll(t, what+": Rewrite", k, left, e, api.Journal{}, 0, api.ErrState)
	}
}

// TestRoom is about P8.5: each number of free bytes.
func TestRoom(t *testing.T) {
	for _, size := range sizes {
		for free := range size - 16 + 1 {
			if used := size - 16 - free; used > 0 && used < 11 || free > 300 && free%97 > 2 {
				continue
			}
			j := with(t, size, 1, full(size, free)...)
			if j.Tail != size-free {
				t.Fatalf("Tail is %d, want %d", j.Tail, size-free)
			}
			want := min(256, max(0, free-10))
			if n := journal.Room(j); n != want {
				t.Errorf("Room with %d free bytes of %d = %d, want %d", free, size, n, want)
			}
		}
	}
}

// TestRoomOfTorn is about P8.5: there is no room behind bytes that are not erased, but the records are there.
func TestRoomOfTorn(t *testing.T) {
	for _, size := range sizes {
		j := torn(t, size)
		if n := journal.Room(j); n != 0 {
			t.Errorf("Room of a torn journal = %d, want 0", n)
		}
		if l := journal.Records(j); !sameList(l, [][]byte{[]byte("a")}) {
			t.Errorf("Records of a torn journal = %q, want a", l)
		}
	}
	j := mount(t, flashOf(page(512, header(1), erased(495), []byte{0x7f}), erased(512)))
	if n := journal.Room(j); n != 0 || j.Tail != 16 {
		t.Errorf("Room = %d, Tail = %d, want 0, 16", n, j.Tail)
	}
}

// TestMountArguments is about R2: the argument stays as it is, and what was returned does not change with it.
func TestMountArguments(t *testing.T) {
	l := lengths(1, 5, 20, 3)
	memory := flashOf(page(512, header(2), records(2, l...)), erased(512), mixed(512, 1)).Bytes
	before := bytes.Clone(memory)
	f := api.Flash{PageSize: 512, Bytes: memory[:1024]}
	j := mount(t, f)
	got := journal.Records(j)
	for i := range got {
		spoil(got[i])
		for k := range got {
			if k > i && !bytes.Equal(got[k], l[k]) {
				t.Errorf("a change of record %d has changed record %d", i, k)
			}
		}
	}
	if again := journal.Records(j); !sameList(again, l) {
		t.Errorf("a change of what Records returned has changed what it returns: %x", again)
	}
	spoil(j.Flash.Bytes)
	if !bytes.Equal(memory, before) {
		t.Error("the memory of the argument has changed")
	}
}
