package flash_test

import (
	"bytes"
	"fmt"
	"testing"

	"passkey/api"
	"passkey/flash"
)

// TestProgramPower is about P7.3 and P7.5: whenever the power fails, the first bytes are programmed, and the rest can be programmed later.
func TestProgramPower(t *testing.T) {
	f := filled(512, 3)
	for _, x := range []span{{0, 0, 1}, {0, 0, 40}, {1, 0, 512}, {1, 3, 300}, {2, 511, 1}, {2, 500, 12}, {1, 512, 0}, {0, 5, 0}} {
		b, start := mixed(x.n, 7), x.page*512+x.at
		all := and(f.Bytes[start:start+x.n], b)
		for budget := range x.n + 3 {
			what := fmt.Sprintf("Program of %d bytes from %d of page %d with the budget %d", x.n, x.at, x.page, budget)
			g, left, e := flash.Program(f, x.page, x.at, b, budget)
			if budget >= x.n {
				expect(t, what, g, left, e, put(f, start, all), budget-x.n, api.OK)
				continue
			}
			expect(t, what, g, left, e, put(f, start, all[:budget]), 0, api.ErrPower)
			g, left, e = flash.Program(g, x.page, x.at+budget, b[budget:], x.n-budget)
			expect(t, what+" and of the rest", g, left, e, put(f, start, all), 0, api.OK)
		}
	}
}

// TestErasePower is about P7.4: whenever the power fails, the first bytes are erased.
func TestErasePower(t *testing.T) {
	for _, pages := range []int{1, 3} {
		f := filled(513, pages)
		for page := range pages {
			for budget := range 513 + 3 {
				what := fmt.Sprintf("Erase of page %d of %d with the budget %d", page, pages, budget)
				g, left, e := flash.Erase(f, page, budget)
				if budget >= 513 {
					expect(t, what, g, left, e, put(f, page*513, erased(513)), budget-513, api.OK)
				} else {
					expect(t, what, g, left, e, put(f, page*513, erased(budget)), 0, api.ErrPower)
				}
			}
		}
	}
}

// TestPowerOfLargePages is about P7.3 and P7.4, for the greatest flash.
func TestPowerOfLargePages(t *testing.T) {
	f := filled(8192, 8)
	b := mixed(8192, 5)
	start := 7 * 8192
	all := and(f.Bytes[start:], b)
	for _, budget := range []int{0, 1, 512, 8191} {
		g, left, e := flash.Program(f, 7, 0, b, budget)
		expect(t, "Program of a large page", g, left, e, put(f, start, all[:budget]), 0, api.ErrPower)
		g, left, e = flash.Erase(f, 7, budget)
		expect(t, "Erase of a large page", g, left, e, put(f, start, erased(budget)), 0, api.ErrPower)
	}
	for _, budget := range []int{8192, 8193, maxInt} {
		g, left, e := flash.Program(f, 7, 0, b, budget)
		expect(t, "Program of a large page", g, left, e, put(f, start, all), budget-8192, api.OK)
		g, left, e = flash.Erase(f, 7, budget)
		expect(t, "Erase of a large page", g, left, e, put(f, start, erased(8192)), budget-8192, api.OK)
	}
}

// TestNegativeBudget is about P7.3 and P7.4: with a negative budget the power does not fail, and the budget stays as it is.
func TestNegativeBudget(t *testing.T) {
	f := filled(512, 2)
	b := mixed(200, 3)
	for _, budget := range []int{minInt, minInt + 1, -1000, -512, -200, -2, -1} {
		g, left, e := flash.Program(f, 1, 9, b, budget)
		expect(t, "Program", g, left, e, put(f, 521, and(f.Bytes[521:721], b)), budget, api.OK)
		g, left, e = flash.Program(f, 1, 9, nil, budget)
		expect(t, "Program of no bytes", g, left, e, f, budget, api.OK)
		g, left, e = flash.Erase(f, 1, budget)
		expect(t, "Erase", g, left, e, put(f, 512, erased(512)), budget, api.OK)
	}
}

// TestNothingToProgram is about P7.3: no bytes need no power, also behind the last byte of a page.
func TestNothingToProgram(t *testing.T) {
	f := filled(512, 2)
	for _, b := range [][]byte{nil, {}} {
		for _, at := range []int{0, 100, 512} {
			for _, budget := range []int{-1, 0, 1, maxInt} {
				g, left, e := flash.Program(f, 1, at, b, budget)
				expect(t, "Program of no bytes", g, left, e, f, budget, api.OK)
			}
		}
	}
}

// TestEqualBytesNeedPower is about P7.3 and P7.4: a byte that is as it shall be counts like any other.
func TestEqualBytesNeedPower(t *testing.T) {
	f, _ := flash.New(512, 1)
	g, left, e := flash.Program(f, 0, 0, erased(10), 9)
	expect(t, "Program of erased bytes", g, left, e, f, 0, api.ErrPower)
	g, left, e = flash.Program(f, 0, 0, erased(10), 12)
	expect(t, "Program of erased bytes", g, left, e, f, 2, api.OK)
	g, left, e = flash.Erase(f, 0, 511)
	expect(t, "Erase of an erased page", g, left, e, f, 0, api.ErrPower)
	g, left, e = flash.Erase(f, 0, 514)
	expect(t, "Erase of an erased page", g, left, e, f, 2, api.OK)
}

// TestOnlyEraseSetsBits is about P7.5, in a long run in which the power fails again and again.
func TestOnlyEraseSetsBits(t *testing.T) {
	f, _ := flash.New(600, 4)
	for i := range 4000 {
		page, at := i*7%4, i*i%500
		b := mixed(i%100, i)
		g, _, e := flash.Program(f, page, at, b, i%130-20)
		if e != api.OK && e != api.ErrPower {
			t.Fatalf("Program returns %d", e)
		}
		if !bytes.Equal(and(f.Bytes, g.Bytes), g.Bytes) {
			t.Fatalf("call %d of Program has set a bit", i)
		}
		start := page*600 + at
		if rest := put(g, start, f.Bytes[start:start+len(b)]); !same(rest, f) {
			t.Fatalf("call %d of Program has changed a byte outside its range", i)
		}
		f = g
		if i%50 == 49 {
			f, _, _ = flash.Erase(f, i/50%4, i%900)
		}
		if e := flash.Validate(f); e != api.OK {
			t.Fatalf("Validate returns %d after call %d", e, i)
		}
	}
}
