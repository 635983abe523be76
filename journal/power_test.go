package journal_test

import (
	"bytes"
	"fmt"
	"testing"

	"passkey/api"
	"passkey/flash"
	"passkey/journal"
)

// TestFormatPower is about P8.4: the pages 0 and 1 are erased, and then the header is programmed, in this order.
func TestFormatPower(t *testing.T) {
	f := flashOf(mixed(512, 1), page(512, header(3), make([]byte, 100)), mixed(512, 2))
	for budget := range 2*512 + 16 {
		g := put(f, 0, erased(min(budget, 1024)))
		if budget > 1024 {
			g = put(g, 0, header(1)[:budget-1024])
		}
		j, left, e := journal.Format(f, budget)
		expectAll(t, fmt.Sprintf("Format with the budget %d", budget), j, left, e, api.Journal{Flash: g}, 0, api.ErrPower)
	}
}

// TestAppendPower is about P8.6 and P8.8: whenever the power fails, the records before are there, or these and the new one.
func TestAppendPower(t *testing.T) {
	for seed, size := range []int{512, 777} {
		for _, n := range []int{1, 2, 30, 255, 256} {
			for _, front := range [][][]byte{nil, lengths(200), lengths(1, 2)} {
				old := mount(t, flashOf(page(size, header(3), record(3, []byte("old"))), page(size, header(4), records(4, front...))))
				b := mixed(n, seed)
				for budget := range n + 10 {
					what := fmt.Sprintf("Append of %d bytes with the budget %d", n, budget)
					j, left, e := journal.Append(old, b, budget)
					g := put(old.Flash, size+old.Tail, record(4, b)[:budget])
					expectAll(t, what, j, left, e, api.Journal{Flash: g}, 0, api.ErrPower)
					expectEither(t, what, j.Flash, front, append(front[:len(front):len(front)], b))
				}
			}
		}
	}
}

// TestRewritePower is about P8.7 and P8.8: whenever the power fails, the records before are there, or the new ones.
func TestRewritePower(t *testing.T) {
	for _, other := range [][]byte{mixed(512, 5), erased(512), make([]byte, 512), page(512, header(8), record(8, []byte("older"))), page(512, header(9), records(9, lengths(40, 50)...), []byte{0})} {
		for _, l := range [][][]byte{nil, lengths(1), lengths(100, 3, 200), full(512, 0)} {
			old := mount(t, flashOf(page(512, header(9), record(9, []byte("old")), []byte{0}), other, mixed(512, 6)))
			body := records(10, l...)
			for budget := range 512 + len(body) + 16 {
				g := put(old.Flash, 512, erased(min(budget, 512)))
				g = put(g, 512+16, body[:min(max(budget-512, 0), len(body))])
				g = put(g, 512, header(10)[:max(budget-512-len(body), 0)])
				what := fmt.Sprintf("Rewrite with %d records and the budget %d", len(l), budget)
				j, left, e := journal.Rewrite(old, l, budget)
				expectAll(t, what, j, left, e, api.Journal{Flash: g}, 0, api.ErrPower)
				expectEither(t, what, j.Flash, [][]byte{[]byte("old")}, l)
			}
		}
	}
}

// expectEither reports a flash whose journal has neither of the two lists of records.
func expectEither(t *testing.T, what string, f api.Flash, before, after [][]byte) {
	t.Helper()
	j, e := journal.Mount(f)
	if l := journal.Records(j); e != api.OK || !sameList(l, before) && !sameList(l, after) {
		t.Errorf("%s: then Mount returns %d, and there are the records %x", what, e, l)
	}
}

// TestPowerAfterLastChange is about P8.8: if only bytes are missing that stay 0xff, the new records are there although the power failed.
func TestPowerAfterLastChange(t *testing.T) {
	empty := with(t, 512, 1)
	for _, b := range [][]byte{{0, 4}, {0, 52}} {
		if r := record(1, b); r[len(r)-1] != 0xff {
			t.Fatalf("the record of %x ends with %#x", b, r[len(r)-1])
		}
		j, left, e := journal.Append(empty, b, 11)
		k := mount(t, j.Flash)
		if e != api.ErrPower || left != 0 || k.Tail != 28 || k.Torn || !sameList(journal.Records(k), [][]byte{b}) {
			t.Errorf("Append of %x without its last byte returns %d, %d; then there are the records %x", b, left, e, journal.Records(k))
		}
	}
	for _, g := range []uint64{582, 605} {
		if h := header(g); h[15] != 0xff {
			t.Fatalf("the header of %d ends with %#x", g, h[15])
		}
		old := with(t, 512, g-1, []byte("old"))
		j, left, e := journal.Rewrite(old, lengths(5), 512+15+15)
		k := mount(t, j.Flash)
		if e != api.ErrPower || left != 0 || k.Page != 1 || k.Generation != int(g) || !sameList(journal.Records(k), lengths(5)) {
			t.Errorf("Rewrite to generation %d without its last byte returns %d, %d; then there are the records %x", g, left, e, journal.Records(k))
		}
	}
}

// TestPowerAgain is about P8.8: in a long run, with losses of power in between, no record is lost, and every journal is genuine.
func TestPowerAgain(t *testing.T) {
	f, _ := flash.New(600, 3)
	j, _, _ := journal.Format(f, -1)
	var l [][]byte
	losses, rewrites := 0, 0
	for i := range 3000 {
		b, budget := mixed(1+i*i%97, i), i*7919%2000
		next := append(l[:len(l):len(l)], b)
		k, left, e := journal.Append(j, b, budget)
		if e == api.ErrFull || e == api.ErrState {
			next = append(l[len(l)-min(len(l), i%4):len(l):len(l)], b)
			k, left, e = journal.Rewrite(j, next, budget)
			rewrites++
		}
		if e == api.ErrPower {
			losses++
			expectEither(t, fmt.Sprintf("call %d", i), k.Flash, l, next)
			j = mount(t, k.Flash)
			l = journal.Records(j)
			continue
		}
		if e != api.OK || left < 0 || left >= budget || !sameList(journal.Records(k), next) {
			t.Fatalf("call %d returns %d, %d, and there are the records %x, want %x", i, left, e, journal.Records(k), next)
		}
		expect(t, fmt.Sprintf("Mount after call %d", i), mount(t, k.Flash), k)
		j, l = k, next
	}
	if losses < 100 || rewrites < 100 {
		t.Errorf("there were %d losses of power and %d calls of Rewrite", losses, rewrites)
	}
}

// TestAnyFlash is about R1 and P8.3: a journal that Mount finds in any bytes is genuine, and no function panics.
func TestAnyFlash(t *testing.T) {
	f := flashOf(page(512, header(2), records(2, lengths(20, 30, 40)...)), page(512, header(1), records(1, lengths(250, 1)...)))
	for i := range 20000 {
		g := put(f, i*i%900, mixed(i%9, i))
		j, e := journal.Mount(g)
		if e != api.OK {
			if e != api.ErrNotFound || !sameJournal(j, api.Journal{}) {
				t.Fatalf("Mount number %d returns %d", i, e)
			}
			continue
		}
		k, _, e := journal.Rewrite(j, [][]byte{mixed(9, i)}, i%1100)
		if e != api.OK && e != api.ErrPower {
			t.Fatalf("Rewrite number %d returns %d: the journal is not genuine", i, e)
		}
		if e == api.OK && !bytes.Equal(journal.Records(k)[0], mixed(9, i)) {
			t.Fatalf("after Rewrite number %d there are the records %x", i, journal.Records(k))
		}
	}
}
