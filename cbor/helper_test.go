package cbor_test

import (
	"slices"
	"strings"

	"passkey/api"
	"passkey/cbor"
)

func item(kind int, number uint64) api.Item { return api.Item{Kind: kind, Number: number} }

func number(n uint64) api.Item   { return item(api.ItemUint, n) }
func negative(n uint64) api.Item { return item(api.ItemNegative, n) }
func array(n uint64) api.Item    { return item(api.ItemArray, n) }
func pairs(n uint64) api.Item    { return item(api.ItemMap, n) }
func boolean(n uint64) api.Item  { return item(api.ItemBool, n) }
func null() api.Item             { return item(api.ItemNull, 0) }
func text(s string) api.Item     { return api.Item{Kind: api.ItemText, Data: s} }
func data(s string) api.Item     { return api.Item{Kind: api.ItemBytes, Data: s} }

func list(items ...api.Item) []api.Item { return items }

// nested returns the given items inside depth arrays with one element each.
func nested(depth int, items ...api.Item) []api.Item {
	return append(slices.Repeat(list(array(1)), depth), items...)
}

// zeros returns an array with n elements 0.
func zeros(n int) []api.Item {
	return append(list(array(uint64(n))), slices.Repeat(list(number(0)), n)...)
}

// numbered returns a map with the keys 0 to n - 1, whose values are 0.
func numbered(n int) []api.Item {
	l := list(pairs(uint64(n)))
	for i := range n {
		l = append(l, number(uint64(i)), number(0))
	}
	return l
}

// nestedBytes is the encoding of depth arrays with one element each, without that of the innermost element.
func nestedBytes(depth int) string { return strings.Repeat("\x81", depth) }

// samples returns valid data items of all kinds and sizes.
func samples() [][]api.Item {
	out := [][]api.Item{
		cbor.Bool(false), cbor.Bool(true), list(null()),
		zeros(0), zeros(1), zeros(23), zeros(24), zeros(255), zeros(256), zeros(api.MaxItems - 1),
		numbered(0), numbered(1), numbered(23), numbered(24), numbered(255),
		nested(api.MaxDepth, null()), nested(api.MaxDepth, array(0)), nested(api.MaxDepth, pairs(0)),
		list(pairs(4), number(23), array(2), null(), pairs(1), number(1), text("x"), negative(0), data("\xff"), text(""), number(0), number(24), boolean(1)),
		list(array(3), pairs(1), number(5), number(0), pairs(2), number(3), number(0), text("b"), array(0), text("é")),
	}
	for _, n := range []uint64{0, 1, 23, 24, 255, 256, 65535, 65536, 1<<32 - 1, 1 << 32, 1<<64 - 1} {
		out = append(out, list(number(n)), list(negative(n)))
	}
	for _, n := range []int{0, 1, 23, 24, 255, 256, api.MaxData} {
		out = append(out, list(data(strings.Repeat("\xff", n))), list(text(strings.Repeat("a", n))))
	}
	return out
}
