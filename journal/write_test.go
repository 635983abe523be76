package journal_test

import (
	"bytes"
	"fmt"
	"slices"
	"testing"

	"passkey/api"
	"passkey/journal"
)

// TestExample has the example of the chapter.
func TestExample(t *testing.T) {
	j, left, e := journal.Format(flashOf(erased(512), erased(512)), -1)
	if j.Tail != 16 || journal.Room(j) != 256 || left != -1 || e != api.OK {
		t.Errorf("after Format, Tail is %d and Room %d; it returns %d, %d", j.Tail, journal.Room(j), left, e)
	}
}

// TestFormat is about P8.4: whatever the flash contains, there is an empty journal then, and the other pages stay as they are.
func TestFormat(t *testing.T) {
	for _, size := range sizes {
		for pages := 2; pages <= 8; pages++ {
			for _, b := range [][]byte{erased(size), make([]byte, size), mixed(size, 3), page(size, header(8), record(8, []byte("a"))), page(size, header(last))} {
				f := api.Flash{PageSize: size, Bytes: bytes.Repeat(b, pages)}
				want := api.Journal{Flash: put(put(f, 0, erased(2*size)), 0, unhex("00000000000000012966ce79f048bd94")), Generation: 1, Tail: 16}
				for _, x := range [][2]int{{-1, -1}, {minInt, minInt}, {2*size + 16, 0}, {2*size + 23, 7}, {maxInt, maxInt - 2*size - 16}} {
					j, left, e := journal.Format(f, x[0])
					what := fmt.Sprintf("Format of %d pages of %d with the budget %d", pages, size, x[0])
					expectAll(t, what, j, left, e, want, x[1], api.OK)
					expect(t, what+" and Mount", mount(t, j.Flash), j)
				}
			}
		}
	}
}

// TestFormatFaults is about P8.4: the flash is examined before the power.
func TestFormatFaults(t *testing.T) {
	for _, x := range faults() {
		for _, budget := range []int{minInt, -1, 0, 1, 1 << 20} {
			j, left, e := journal.Format(x.flash, budget)
			expectAll(t, fmt.Sprintf("Format of %d bytes in pages of %d", len(x.flash.Bytes), x.flash.PageSize), j, left, e, api.Journal{}, 0, x.want)
		}
	}
}

// TestAppend is about P8.6: records of each length, one after another, on each page.
func TestAppend(t *testing.T) {
	for _, size := range sizes {
		for _, front := range [][][]byte{nil, lengths(1), lengths(30, 40)} {
			for n := 1; n <= 256; n += 15 {
				b := mixed(n, 4)
				for _, budget := range []int{-1, -7, n + 10, n + 15, maxInt} {
					left := budget
					if budget > 0 {
						left -= n + 10
					}
					old := page(size, header(8), record(8, b))
					f := flashOf(page(size, header(9), records(9, front...)), old, mixed(size, 1))
					j, got, e := journal.Append(mount(t, f), b, budget)
					l := append(front[:len(front):len(front)], b)
					want := mount(t, flashOf(page(size, header(9), records(9, l...)), old, mixed(size, 1)))
					what := fmt.Sprintf("Append of %d bytes to %d records in pages of %d with the budget %d", n, len(front), size, budget)
					expectAll(t, what, j, got, e, want, left, api.OK)
					if !sameList(journal.Records(j), l) {
						t.Errorf("%s: the records are %x", what, journal.Records(j))
					}
				}
			}
		}
	}
}

// TestAppendGolden is about P8.6: the bytes on page 1.
func TestAppendGolden(t *testing.T) {
	j := mount(t, flashOf(erased(512), page(512, header(2))))
	j, left, e := journal.Append(j, []byte{0, 1, 2}, 20)
	want := flashOf(erased(512), page(512, unhex("0000000000000002003ed1fc16b42652"), unhex("00030001024d3ba505c642f097")))
	expectAll(t, "Append", j, left, e, api.Journal{Flash: want, Page: 1, Generation: 2, Tail: 29}, 7, api.OK)
}

// TestAppendUntilFull is about P8.5 and P8.6: a record with as many bytes as there is room, and one with more.
func TestAppendUntilFull(t *testing.T) {
	for _, size := range sizes {
		for _, n := range []int{1, 2, 7, 100, 255, 256} {
			j, _, _ := journal.Format(flashOf(erased(size), erased(size)), -1)
			count := 0
			for n <= journal.Room(j) {
				j, _, _ = journal.Append(j, mixed(n, count), -1)
				count++
			}
			if want := (size - 16) / (n + 10); count != want || len(journal.Records(j)) != want {
				t.Errorf("there was room for %d records of %d bytes in a page of %d, want %d", count, n, size, want)
			}
			for _, budget := range []int{-1, 0, 1000} {
				k, left, e := journal.Append(j, mixed(n, 1), budget)
				expectAll(t, "Append to a full journal", k, left, e, api.Journal{}, 0, api.ErrFull)
			}
			room := journal.Room(j)
			if room == 0 {
				continue
			}
			j, left, e := journal.Append(j, mixed(room, 1), room+10)
			if e != api.OK || left != 0 || j.Tail != size || j.Torn || journal.Room(j) != 0 {
				t.Errorf("Append of the last %d bytes returns %d, %d; Tail is %d", room, left, e, j.Tail)
			}
			k, left, e := journal.Append(j, []byte("a"), -1)
			expectAll(t, "Append to a full page", k, left, e, api.Journal{}, 0, api.ErrFull)
		}
	}
}

// TestAppendErrors is about P8.6: the errors and their order.
func TestAppendErrors(t *testing.T) {
	empty := with(t, 512, 1)
	notGenuine := torn(t, 512)
	notGenuine.Tail++
	for _, x := range []struct {
		what string
		j    api.Journal
		n    int
		want api.Errno
	}{
		{"no bytes", empty, 0, api.ErrRange},
		{"too many bytes", empty, 257, api.ErrRange},
		{"far too many bytes", empty, 70000, api.ErrRange},
		{"a torn journal", torn(t, 512), 1, api.ErrState},
		{"a torn journal and much", torn(t, 512), 256, api.ErrState},
		{"a torn journal and no bytes", torn(t, 512), 0, api.ErrRange},
		{"a torn journal and too many bytes", torn(t, 512), 257, api.ErrRange},
		{"a torn journal that is not genuine and no bytes", notGenuine, 0, api.ErrState},
		{"a full journal", with(t, 512, 1, full(512, 0)...), 1, api.ErrFull},
		{"a full journal and too many bytes", with(t, 512, 1, full(512, 0)...), 257, api.ErrRange},
		{"a journal with ten free bytes", with(t, 512, 1, full(512, 10)...), 1, api.ErrFull},
		{"a journal with 20 free bytes", with(t, 512, 1, full(512, 20)...), 11, api.ErrFull},
		{"a journal with 265 free bytes", with(t, 512, 1, full(512, 265)...), 256, api.ErrFull},
	} {
		for _, budget := range []int{minInt, -1, 0, 1, maxInt} {
			j, left, e := journal.Append(x.j, mixed(x.n, 1), budget)
			expectAll(t, fmt.Sprintf("Append of %d bytes, %s", x.n, x.what), j, left, e, api.Journal{}, 0, x.want)
		}
	}
	j, left, e := journal.Append(empty, nil, -1)
	expectAll(t, "Append of nil", j, left, e, api.Journal{}, 0, api.ErrRange)
}

// TestRewrite is about P8.7: the other page has the records then, and all other pages stay as they are.
func TestRewrite(t *testing.T) {
	for _, size := range sizes {
		for i, l := range [][][]byte{nil, {}, lengths(1), lengths(256), lengths(1, 2, 3), full(size, 0), full(size, 9)} {
			for _, g := range []uint64{1, 7, 255, last - 1} {
				old := page(size, header(g), record(g, []byte("old")), []byte("torn")[:i%2])
				for _, other := range [][]byte{erased(size), mixed(size, 2), page(size, header(g-1), record(g-1, []byte("older")))} {
					fresh := page(size, header(g+1), records(g+1, l...))
					cost := size + len(records(g+1, l...)) + 16
					for _, x := range [][2]int{{-1, -1}, {minInt, minInt}, {cost, 0}, {cost + 3, 3}} {
						what := fmt.Sprintf("Rewrite with %d records of generation %d in pages of %d", len(l), g, size)
						j, left, e := journal.Rewrite(mount(t, flashOf(old, other, old)), l, x[0])
						want := api.Journal{Flash: flashOf(old, fresh, old), Page: 1, Generation: int(g) + 1, Tail: cost - size}
						expectAll(t, what, j, left, e, want, x[1], api.OK)
						expect(t, what+" and Mount", mount(t, j.Flash), j)
						if !sameList(journal.Records(j), l) {
							t.Errorf("%s: the records are %x", what, journal.Records(j))
						}
						if bytes.Equal(other, mixed(size, 2)) {
							continue
						}
						j, left, e = journal.Rewrite(mount(t, flashOf(other, old, old)), l, x[0])
						want.Flash, want.Page = flashOf(fresh, old, old), 0
						expectAll(t, what, j, left, e, want, x[1], api.OK)
					}
				}
			}
		}
	}
}

// TestRewriteGolden is about P8.1 and P8.7: the bytes of a page.
func TestRewriteGolden(t *testing.T) {
	j, _, _ := journal.Format(flashOf(erased(512), erased(512)), -1)
	j, _, _ = journal.Append(j, []byte("a"), -1)
	j, left, e := journal.Rewrite(j, [][]byte{{0, 1, 2}, {0, 1, 2}}, 1000)
	old := page(512, unhex("00000000000000012966ce79f048bd94"), unhex("0001612ab44e5a7c009168"))
	fresh := page(512, unhex("0000000000000002003ed1fc16b42652"), unhex("00030001024d3ba505c642f097"), unhex("00030001024d3ba505c642f097"))
	expectAll(t, "Rewrite", j, left, e, api.Journal{Flash: flashOf(old, fresh), Page: 1, Generation: 2, Tail: 42}, 1000-512-26-16, api.OK)
}

// TestRewriteOfEqualGenerations is about P8.2 and P8.7: page 0 is in use, so page 1 is written.
func TestRewriteOfEqualGenerations(t *testing.T) {
	old := page(512, header(6), record(6, []byte("a")))
	j, left, e := journal.Rewrite(mount(t, flashOf(old, old)), lengths(9), -1)
	want := api.Journal{Flash: flashOf(old, page(512, header(7), records(7, lengths(9)...))), Page: 1, Generation: 7, Tail: 35}
	expectAll(t, "Rewrite", j, left, e, want, -1, api.OK)
}

// TestRewriteErrors is about P8.7: the errors and their order.
func TestRewriteErrors(t *testing.T) {
	first, end, tornEnd := with(t, 512, 1), with(t, 512, last), mount(t, flashOf(page(512, header(last), []byte{0}), erased(512)))
	notGenuine := end
	notGenuine.Torn = true
	fits := full(512, 0)
	tooMuch := append(full(512, 10), []byte("a"))
	for _, x := range []struct {
		what string
		j    api.Journal
		l    [][]byte
		want api.Errno
	}{
		{"not genuine", notGenuine, lengths(1, 0), api.ErrState},
		{"an empty element", first, lengths(1, 0), api.ErrRange},
		{"a nil element", first, [][]byte{nil}, api.ErrRange},
		{"an element that is too long", first, lengths(257), api.ErrRange},
		{"an element that is too long behind others", first, lengths(1, 2, 257), api.ErrRange},
		{"an empty element behind too much", first, append(tooMuch[:len(tooMuch):len(tooMuch)], nil), api.ErrRange},
		{"an empty element, last generation", end, lengths(0), api.ErrRange},
		{"one byte too much", first, tooMuch, api.ErrFull},
		{"two records of 256", first, lengths(256, 256), api.ErrFull},
		{"many records", first, slices.Repeat(lengths(1), 46), api.ErrFull},
		{"many empty records", first, make([][]byte, 5000), api.ErrRange},
		{"too much, last generation", end, tooMuch, api.ErrFull},
		{"last generation", end, lengths(1), api.ErrExhausted},
		{"last generation, a full page", end, fits, api.ErrExhausted},
		{"last generation, no records", end, nil, api.ErrExhausted},
		{"last generation, torn", tornEnd, lengths(1), api.ErrExhausted},
	} {
		for _, budget := range []int{minInt, -1, 0, 1, maxInt} {
			j, left, e := journal.Rewrite(x.j, x.l, budget)
			expectAll(t, "Rewrite, "+x.what, j, left, e, api.Journal{}, 0, x.want)
		}
	}
	if _, _, e := journal.Rewrite(first, fits, -1); e != api.OK {
		t.Errorf("Rewrite with a full page returns %d", e)
	}
	if j, _, e := journal.Append(end, []byte("a"), -1); e != api.OK || j.Generation != last {
		t.Errorf("Append in the last generation returns %d", e)
	}
}

// TestWriteArguments is about R2: the arguments stay as they are, and a result is new memory.
func TestWriteArguments(t *testing.T) {
	memory := flashOf(page(512, header(2), records(2, lengths(4, 4)...)), erased(512), mixed(512, 1)).Bytes
	before := bytes.Clone(memory)
	f := api.Flash{PageSize: 512, Bytes: memory[:1024]}
	b := memory[1030:1060]
	j := api.Journal{Flash: f, Generation: 2, Tail: 44}
	for _, budget := range []int{-1, 0, 5, 40, 512, 530, 600} {
		for _, write := range []func() (api.Journal, int, api.Errno){
			func() (api.Journal, int, api.Errno) { return journal.Format(f, budget) },
			func() (api.Journal, int, api.Errno) { return journal.Append(j, b, budget) },
			func() (api.Journal, int, api.Errno) { return journal.Rewrite(j, [][]byte{b, b[:1], b}, budget) },
		} {
			first, left, e := write()
			kept := first
			kept.Flash.Bytes = bytes.Clone(first.Flash.Bytes)
			spoil(first.Flash.Bytes)
			if !bytes.Equal(memory, before) {
				t.Fatalf("with the budget %d, the memory of the arguments has changed", budget)
			}
			again, left2, e2 := write()
			expectAll(t, "the same call again", again, left2, e2, kept, left, e)
		}
	}
}
