package cbor

import (
	"cmp"
	"slices"

	"passkey/api"
)

// Uint returns the unsigned number n.
func Uint(n uint64) []api.Item {
	return []api.Item{{Kind: api.ItemUint, Number: n}}
}

// Bytes returns the byte string b.
func Bytes(b []byte) []api.Item {
	return []api.Item{{Kind: api.ItemBytes, Data: string(b)}}
}

// Text returns the text s.
func Text(s string) []api.Item {
	return []api.Item{{Kind: api.ItemText, Data: s}}
}

// Bool returns the truth value v.
func Bool(v bool) []api.Item {
	it := api.Item{Kind: api.ItemBool}
	if v {
		it.Number = 1
	}
	return []api.Item{it}
}

// Array returns the array of the values.
func Array(values [][]api.Item) ([]api.Item, api.Errno) {
	if e := validateAll(values); e != api.OK {
		return nil, e
	}
	return container(api.ItemArray, len(values), values)
}

// Map returns the map from the keys to the values.
func Map(keys []uint64, values [][]api.Item) ([]api.Item, api.Errno) {
	if len(keys) != len(values) {
		return nil, api.ErrShape
	}
	pairs := sortedPairs(keys, values)
	for i := 1; i < len(pairs); i++ {
		if pairs[i].key == pairs[i-1].key {
			return nil, api.ErrDuplicate
		}
	}
	if e := validateAll(values); e != api.OK {
		return nil, e
	}
	var content [][]api.Item
	for _, p := range pairs {
		content = append(content, Uint(p.key), p.value)
	}
	return container(api.ItemMap, len(pairs), content)
}

type pair struct {
	key   uint64
	value []api.Item
}

// sortedPairs returns the pairs of keys and values in ascending order of the keys, which is also the order of their encodings.
func sortedPairs(keys []uint64, values [][]api.Item) []pair {
	pairs := make([]pair, len(keys))
	for i, key := range keys {
		pairs[i] = pair{key, values[i]}
	}
	slices.SortFunc(pairs, func(a, b pair) int { return cmp.Compare(a.key, b.key) })
	return pairs
}

// validateAll returns the error of the first value that is not valid.
func validateAll(values [][]api.Item) api.Errno {
	for _, v := range values {
		if e := Validate(v); e != api.OK {
			return e
		}
	}
	return api.OK
}

// container returns the array or map with this Number and content, if it is valid.
func container(kind, number int, content [][]api.Item) ([]api.Item, api.Errno) {
	head := api.Item{Kind: kind, Number: uint64(number)}
	if tooManyParts(head.Kind, head.Number) {
		// Validate would refuse the head. Such a list is not built, because values that share memory could make it far larger than the arguments.
		return nil, api.ErrTooLarge
	}
	l := append([]api.Item{head}, slices.Concat(content...)...)
	if e := Validate(l); e != api.OK {
		return nil, e
	}
	return l, api.OK
}
