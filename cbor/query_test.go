package cbor_test

import (
	"math"
	"slices"
	"testing"

	"passkey/api"
	"passkey/cbor"
)

// TestSkip is about P1.5.
func TestSkip(t *testing.T) {
	l := list(pairs(2), number(1), array(2), array(0), text("a"), number(2), pairs(1), number(3), null())
	tests := []struct {
		name string
		l    []api.Item
		at   int
		next int
		ok   bool
	}{
		{"whole map", l, 0, 9, true},
		{"number", l, 1, 2, true},
		{"array", l, 2, 5, true},
		{"empty array", l, 3, 4, true},
		{"text", l, 4, 5, true},
		{"inner map", l, 6, 9, true},
		{"last item", l, 8, 9, true},
		{"index behind the list", l, 9, 0, false},
		{"large index", l, math.MaxInt, 0, false},
		{"negative index", l, -1, 0, false},
		{"least index", l, math.MinInt, 0, false},
		{"empty list", nil, 0, 0, false},
		{"truncated map", l[:8], 0, 0, false},
		{"truncated inner map", l[:8], 6, 0, false},
		{"complete array of a truncated map", l[:8], 2, 5, true},
		{"empty map", list(pairs(0)), 0, 1, true},
		{"items behind the data item", list(null(), null()), 0, 1, true},
		{"second of two data items", list(null(), null()), 1, 2, true},
		{"unknown kind", list(array(1), item(99, 7)), 0, 2, true},
		{"unknown kind with a large number", list(item(-3, 1<<64-1)), 0, 1, true},
		{"number of an item that is no container", list(number(1<<64-1), null()), 0, 1, true},
		{"shape is not considered", list(api.Item{Kind: api.ItemArray, Number: 1, Data: "x"}, boolean(7)), 0, 2, true},
		{"keys are not considered", list(pairs(2), data(""), null(), data(""), null()), 0, 5, true},
		{"invalid text", list(text("\xff")), 0, 1, true},
		{"array that is too large", append(list(array(api.MaxItems+1)), zeros(api.MaxItems + 1)[1:]...), 0, 0, false},
		{"map that is too large", append(list(pairs(api.MaxItems+1)), zeros(2*api.MaxItems + 2)[1:]...), 0, 0, false},
		{"largest array", zeros(api.MaxItems), 0, api.MaxItems + 1, true},
		{"largest map", numbered(api.MaxItems), 0, 2*api.MaxItems + 1, true},
		{"number of elements 2^64 - 1", list(array(1<<64-1), null()), 0, 0, false},
		{"number of pairs whose double is 0 modulo 2^64", list(pairs(1 << 63)), 0, 0, false},
		{"inner array that is too large", list(array(2), array(api.MaxItems+1), null()), 0, 0, false},
		{"array that is too large stands behind", list(null(), array(api.MaxItems+1)), 0, 1, true},
		{"deep nesting", nested(1000, null()), 0, 1001, true},
	}
	for _, x := range tests {
		before := slices.Clone(x.l)
		if next, ok := cbor.Skip(x.l, x.at); next != x.next || ok != x.ok {
			t.Errorf("%s: Skip = %d, %t, want %d, %t", x.name, next, ok, x.next, x.ok)
		}
		if !slices.Equal(before, x.l) {
			t.Errorf("%s: the argument was changed", x.name)
		}
	}
}

// TestLookup is about P1.6.
func TestLookup(t *testing.T) {
	l := list(pairs(5),
		number(1), text("a"),
		number(3), pairs(1), number(7), null(),
		negative(4), boolean(0),
		text("b"), boolean(1),
		number(300), array(2), number(8), array(0))
	tests := []struct {
		name string
		l    []api.Item
		key  uint64
		want []api.Item
	}{
		{"first", l, 1, list(text("a"))},
		{"map", l, 3, list(pairs(1), number(7), null())},
		{"last", l, 300, list(array(2), number(8), array(0))},
		{"absent", l, 2, nil},
		{"key of an inner map", l, 7, nil},
		{"element of a value", l, 8, nil},
		{"number of a negative key", l, 4, nil},
		{"text key", l, 0, nil},
		{"empty map", list(pairs(0)), 0, nil},
		{"array", list(array(2), number(1), number(2)), 1, nil},
		{"number", list(number(1)), 1, nil},
		{"empty list", nil, 0, nil},
		{"truncated", l[:len(l)-1], 1, nil},
		{"with an item behind", append(slices.Clone(l), null()), 1, nil},
		{"not canonical", list(pairs(2), number(2), null(), number(1), null()), 2, nil},
		{"invalid value", list(pairs(2), number(1), null(), number(2), boolean(2)), 1, nil},
	}
	for _, x := range tests {
		if got, ok := cbor.Lookup(x.l, x.key); !slices.Equal(got, x.want) || ok != (x.want != nil) {
			t.Errorf("%s: Lookup = %v, %t, want %v", x.name, got, ok, x.want)
		}
	}
}

// TestLookupReturnsNewMemory is about R2.
func TestLookupReturnsNewMemory(t *testing.T) {
	l := list(pairs(2), number(1), text("a"), number(2), text("b"))
	before := slices.Clone(l)
	value, _ := cbor.Lookup(l, 1)
	value[0] = null()
	_ = append(value, null())
	if !slices.Equal(l, before) {
		t.Errorf("the argument became %v", l)
	}
}
