package flash_test

import (
	"bytes"
	"fmt"
	"testing"

	"passkey/api"
	"passkey/flash"
)

// TestNew is about P7.1: a new flash is erased and valid.
func TestNew(t *testing.T) {
	for _, size := range sizes {
		for pages := 1; pages <= 8; pages++ {
			f, e := flash.New(size, pages)
			if e != api.OK || !same(f, api.Flash{PageSize: size, Bytes: erased(size * pages)}) {
				t.Errorf("New(%d, %d) returns %d bytes in pages of %d, %d, want %d erased bytes", size, pages, len(f.Bytes), f.PageSize, e, size*pages)
			}
			if e := flash.Validate(f); e != api.OK {
				t.Errorf("Validate(New(%d, %d)) = %d, want OK", size, pages, e)
			}
		}
	}
}

// TestNewRange is about P7.1: sizes and numbers out of range.
func TestNewRange(t *testing.T) {
	refuse := func(size, pages int) {
		if f, e := flash.New(size, pages); e != api.ErrRange || f.PageSize != 0 || len(f.Bytes) != 0 {
			t.Errorf("New(%d, %d) returns %d bytes in pages of %d, %d, want the zero flash, ErrRange", size, pages, len(f.Bytes), f.PageSize, e)
		}
	}
	for _, size := range []int{minInt, -512, -1, 0, 1, 511, 8193, 1 << 40, 1 << 61, maxInt} {
		for _, pages := range []int{minInt, -1, 0, 1, 2, 8, 9, maxInt} {
			refuse(size, pages)
		}
	}
	for _, size := range sizes {
		for _, pages := range []int{minInt, -8, -1, 0, 9, 16, 1 << 55, 1 << 60, maxInt} {
			refuse(size, pages)
		}
	}
}

// TestExamples has the examples of the chapter.
func TestExamples(t *testing.T) {
	f, e := flash.New(512, 2)
	if len(f.Bytes) != 1024 || e != api.OK {
		t.Fatalf("P7.1: New(512, 2) has %d bytes, %d, want 1024", len(f.Bytes), e)
	}
	f, _, _ = flash.Program(f, 1, 7, []byte{0x0f}, -1)
	if got, _ := flash.Read(f, 1, 6, 3); !bytes.Equal(got, []byte{0xff, 0x0f, 0xff}) {
		t.Errorf("P7.3: Program of 0x0f makes %x, want ff0fff", got)
	}
	f, _, _ = flash.Program(f, 1, 7, []byte{0xf0}, -1)
	if got, _ := flash.Read(f, 1, 6, 3); !bytes.Equal(got, []byte{0xff, 0, 0xff}) {
		t.Errorf("P7.3: Program of 0x0f and 0xf0 makes %x, want ff00ff", got)
	}
}

// TestValidate is about P7.1: the bytes may be any.
func TestValidate(t *testing.T) {
	for _, size := range sizes {
		for pages := 1; pages <= 8; pages++ {
			if e := flash.Validate(filled(size, pages)); e != api.OK {
				t.Errorf("Validate of %d pages of %d bytes = %d, want OK", pages, size, e)
			}
		}
	}
	for _, x := range faults() {
		if e := flash.Validate(x.flash); e != x.want {
			t.Errorf("Validate of %d bytes in pages of %d = %d, want %d", len(x.flash.Bytes), x.flash.PageSize, e, x.want)
		}
	}
}

// TestRead is about P7.2.
func TestRead(t *testing.T) {
	for _, size := range sizes {
		for pages := 1; pages <= 8; pages++ {
			f := filled(size, pages)
			for page := range pages {
				for _, x := range spans(size) {
					start := page*size + x.at
					got, e := flash.Read(f, page, x.at, x.n)
					if !bytes.Equal(got, f.Bytes[start:start+x.n]) || e != api.OK {
						t.Errorf("Read of %d bytes from %d of page %d of %d = %x, %d", x.n, x.at, page, size, got, e)
					}
				}
			}
		}
	}
}

// TestReadRange is about P7.2: pages and spans that do not exist.
func TestReadRange(t *testing.T) {
	for _, size := range sizes {
		for _, pages := range []int{1, 2, 8} {
			f := filled(size, pages)
			for _, x := range badSpans(size, pages) {
				if got, e := flash.Read(f, x.page, x.at, x.n); len(got) != 0 || e != api.ErrRange {
					t.Errorf("Read of %d bytes from %d of page %d of %d pages of %d = %x, %d, want no bytes, ErrRange", x.n, x.at, x.page, pages, size, got, e)
				}
			}
		}
	}
}

// TestProgram is about P7.3: each place in a page, with powers that do not fail.
func TestProgram(t *testing.T) {
	for _, size := range sizes {
		f := filled(size, 3)
		for page := range 3 {
			for _, x := range spans(size) {
				start, b := page*size+x.at, mixed(x.n, 9)
				want := put(f, start, and(f.Bytes[start:start+x.n], b))
				what := fmt.Sprintf("Program of %d bytes from %d of page %d of %d", x.n, x.at, page, size)
				g, left, e := flash.Program(f, page, x.at, b, -1)
				expect(t, what, g, left, e, want, -1, api.OK)
				g, left, e = flash.Program(f, page, x.at, b, x.n+5)
				expect(t, what, g, left, e, want, 5, api.OK)
			}
		}
	}
}

// TestProgramEachByte is about P7.3: each byte in place of each other.
func TestProgramEachByte(t *testing.T) {
	f := api.Flash{PageSize: 512, Bytes: make([]byte, 512)}
	for i := range f.Bytes {
		f.Bytes[i] = byte(i)
	}
	for y := range 256 {
		b := bytes.Repeat([]byte{byte(y)}, 256)
		g, _, _ := flash.Program(f, 0, 0, b, -1)
		for x := range 256 {
			if g.Bytes[x] != byte(x&y) {
				t.Errorf("Program of %#x in place of %#x makes %#x, want %#x", y, x, g.Bytes[x], x&y)
			}
		}
	}
}

// TestProgramRange is about P7.3: pages and spans that do not exist, whatever the budget is.
func TestProgramRange(t *testing.T) {
	for _, size := range sizes {
		for _, pages := range []int{1, 2, 8} {
			f := filled(size, pages)
			for _, x := range badSpans(size, pages) {
				if x.n < 0 || x.n > 1<<20 {
					continue
				}
				what := fmt.Sprintf("Program of %d bytes from %d of page %d of %d pages of %d", x.n, x.at, x.page, pages, size)
				for _, budget := range []int{-1, 0, 1, 1 << 30} {
					g, left, e := flash.Program(f, x.page, x.at, make([]byte, x.n), budget)
					expect(t, what, g, left, e, api.Flash{}, 0, api.ErrRange)
				}
			}
		}
	}
}

// TestErase is about P7.4: each page, with powers that do not fail.
func TestErase(t *testing.T) {
	for _, size := range sizes {
		for pages := 1; pages <= 8; pages++ {
			f := filled(size, pages)
			for page := range pages {
				want := put(f, page*size, erased(size))
				what := fmt.Sprintf("Erase of page %d of %d pages of %d", page, pages, size)
				g, left, e := flash.Erase(f, page, -1)
				expect(t, what, g, left, e, want, -1, api.OK)
				g, left, e = flash.Erase(f, page, size+5)
				expect(t, what, g, left, e, want, 5, api.OK)
			}
		}
	}
}

// TestEraseRange is about P7.4: pages that do not exist, whatever the budget is.
func TestEraseRange(t *testing.T) {
	for _, size := range sizes {
		for _, pages := range []int{1, 2, 8} {
			f := filled(size, pages)
			for _, page := range badPages(pages) {
				what := fmt.Sprintf("Erase of page %d of %d pages of %d", page, pages, size)
				for _, budget := range []int{-1, 0, 1, 1 << 30} {
					g, left, e := flash.Erase(f, page, budget)
					expect(t, what, g, left, e, api.Flash{}, 0, api.ErrRange)
				}
			}
		}
	}
}

// TestFaultyFlash is about P7.2, P7.3 and P7.4: the error of Validate comes before all others.
func TestFaultyFlash(t *testing.T) {
	for _, x := range faults() {
		what := fmt.Sprintf("of %d bytes in pages of %d", len(x.flash.Bytes), x.flash.PageSize)
		for _, page := range []int{minInt, -1, 0, 1, 8, maxInt} {
			for _, at := range []int{minInt, -1, 0, 1, maxInt} {
				for _, n := range []int{minInt, -1, 0, 1, maxInt} {
					if got, e := flash.Read(x.flash, page, at, n); len(got) != 0 || e != x.want {
						t.Errorf("Read %s = %x, %d, want no bytes, %d", what, got, e, x.want)
					}
				}
				for _, budget := range []int{-1, 0, 1} {
					g, left, e := flash.Program(x.flash, page, at, []byte{0, 0}, budget)
					expect(t, "Program "+what, g, left, e, api.Flash{}, 0, x.want)
				}
			}
			for _, budget := range []int{-1, 0, 1} {
				g, left, e := flash.Erase(x.flash, page, budget)
				expect(t, "Erase "+what, g, left, e, api.Flash{}, 0, x.want)
			}
		}
	}
}

// TestArgumentsStay is about R2: neither the arguments nor the memory behind them change, and a result is new memory.
func TestArgumentsStay(t *testing.T) {
	memory := mixed(2000, 1)
	before := bytes.Clone(memory)
	f := api.Flash{PageSize: 512, Bytes: memory[100:1124]}
	b := memory[1200:1300]
	read, _ := flash.Read(f, 1, 10, 20)
	spoil(read)
	for _, budget := range []int{-1, 0, 50, 100, 600} {
		programmed, _, _ := flash.Program(f, 1, 10, b, budget)
		spoil(programmed.Bytes)
		empty, _, _ := flash.Program(f, 1, 10, nil, budget)
		spoil(empty.Bytes)
		emptied, _, _ := flash.Erase(f, 1, budget)
		spoil(emptied.Bytes)
	}
	if !bytes.Equal(memory, before) {
		t.Error("the memory of the arguments has changed")
	}
	first, _ := flash.New(512, 1)
	spoil(first.Bytes)
	if second, _ := flash.New(512, 1); !bytes.Equal(second.Bytes, erased(512)) {
		t.Error("a change of what New returned has changed what it returns")
	}
}

// TestProgramOfItself is about P7.3: the bytes may be those of the flash, from before.
func TestProgramOfItself(t *testing.T) {
	f := filled(512, 2)
	for _, at := range []int{0, 1, 3, 256} {
		b := f.Bytes[2:202]
		want := put(f, at, and(f.Bytes[at:at+200], bytes.Clone(b)))
		g, left, e := flash.Program(f, 0, at, b, 200)
		expect(t, "Program of its own bytes", g, left, e, want, 0, api.OK)
	}
}

// span is a number of bytes from an offset of a page.
type span struct {
	page, at, n int
}

// spans returns parts of a page, from its begin to its end, of page 0.
func spans(size int) []span {
	var l []span
	for _, at := range []int{0, 1, 2, 17, size / 2, size - 2, size - 1, size} {
		for _, n := range []int{0, 1, 2, 16, size / 2, size - at - 1, size - at} {
			if n >= 0 && at+n <= size {
				l = append(l, span{0, at, n})
			}
		}
	}
	return l
}

// badPages returns numbers that no page has.
func badPages(pages int) []int {
	return []int{minInt, -1 << 55, -2, -1, pages, pages + 1, 1 << 52, 1 << 55, maxInt}
}

// badSpans returns parts of which at least one number is out of range.
func badSpans(size, pages int) []span {
	var l []span
	for _, page := range badPages(pages) {
		l = append(l, span{page, 0, 0}, span{page, 0, 1}, span{page, 0, size}, span{page, -1, 1}, span{page, size, 1}, span{page, -page, 1})
	}
	for page := range pages {
		for _, at := range []int{minInt, -size, -2, -1} {
			for _, n := range []int{minInt, -1, 0, 1, 2, size, 2 * size, maxInt} {
				l = append(l, span{page, at, n})
			}
		}
		for _, at := range []int{0, 1, size - 1, size, size + 1, 2 * size, maxInt - 1, maxInt} {
			for _, n := range []int{minInt, -size, -1, max(size-at, -1) + 1, size + 1, 2*size + 1, maxInt - 1, maxInt} {
				if n < 0 || at > size || n > size-at {
					l = append(l, span{page, at, n})
				}
			}
		}
		l = append(l, span{page, size + 1, 0}, span{page, size + 1, -1}, span{page, maxInt, 0})
	}
	return l
}
