package onetime_test

import (
	"slices"
	"testing"

	"passkey/onetime"
)

// TestSplit is about P3.1; the first two rows are the examples of the chapter.
func TestSplit(t *testing.T) {
	tests := []struct {
		m    uint64
		want []int
	}{
		{0, []int{0, 0, 0, 0, 0, 0, 0, 0, 0, 0, 0, 0, 0, 0, 0, 0, 15, 0}},
		{1<<64 - 1, []int{15, 15, 15, 15, 15, 15, 15, 15, 15, 15, 15, 15, 15, 15, 15, 15, 0, 0}},
		{1, []int{0, 0, 0, 0, 0, 0, 0, 0, 0, 0, 0, 0, 0, 0, 0, 1, 14, 15}},
		{1 << 63, []int{8, 0, 0, 0, 0, 0, 0, 0, 0, 0, 0, 0, 0, 0, 0, 0, 14, 8}},
		{1<<64 - 2, []int{15, 15, 15, 15, 15, 15, 15, 15, 15, 15, 15, 15, 15, 15, 15, 14, 0, 1}},
		{0x0fffffffffffffff, []int{0, 15, 15, 15, 15, 15, 15, 15, 15, 15, 15, 15, 15, 15, 15, 15, 0, 15}},
		{0xefffffffffffff0f, []int{14, 15, 15, 15, 15, 15, 15, 15, 15, 15, 15, 15, 15, 15, 0, 15, 1, 0}},
		{0x0123456789abcdef, []int{0, 1, 2, 3, 4, 5, 6, 7, 8, 9, 10, 11, 12, 13, 14, 15, 7, 8}},
		{0xfedcba9876543210, []int{15, 14, 13, 12, 11, 10, 9, 8, 7, 6, 5, 4, 3, 2, 1, 0, 7, 8}},
	}
	for _, x := range tests {
		if got := onetime.Split(x.m); !slices.Equal(got, x.want) {
			t.Errorf("Split(%#x) = %v, want %v", x.m, got, x.want)
		}
	}
}

// TestSplitIsNewMemory is about R2.
func TestSplitIsNewMemory(t *testing.T) {
	first, second := onetime.Split(7), onetime.Split(7)
	want := slices.Clone(second)
	for i := range first {
		first[i] = -1
	}
	if third := onetime.Split(7); !slices.Equal(second, want) || !slices.Equal(third, want) {
		t.Errorf("a change of one result of Split made others %v and %v, want %v", second, third, want)
	}
}

// TestDigitsAreSomewhereSmaller is about P3.6: neither of two different words has digits that are all at least those of the other one.
func TestDigitsAreSomewhereSmaller(t *testing.T) {
	words := []uint64{0, 1<<64 - 1, 0x0123456789abcdef, 0x0123456789abcdee, 0x1123456789abcdef, 0xfedcba9876543210, 0x00000000000000ff, 0x10000000000000ff}
	for i := range 64 {
		words = append(words, 1<<i, 1<<i-1, ^uint64(1<<i))
	}
	slices.Sort(words)
	words = slices.Compact(words)
	for _, a := range words {
		for _, b := range words {
			if a != b && !somewhereSmaller(onetime.Split(a), onetime.Split(b)) {
				t.Errorf("no digit of %#x is smaller than that of %#x", a, b)
			}
		}
	}
}

func somewhereSmaller(a, b []int) bool {
	for i := range a {
		if a[i] < b[i] {
			return true
		}
	}
	return false
}
