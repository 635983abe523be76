// Package cbor is layer 1: canonical CBOR. A data item is a list of api.Item in preorder, and it has exactly one encoding.
package cbor

import (
	"slices"

	"passkey/api"
)

// Validate returns OK if l is one complete data item in canonical form, and otherwise its first error.
func Validate(l []api.Item) api.Errno {
	var n nesting
	for _, it := range l {
		if e := n.check(it); e != api.OK {
			return e
		}
		n.enter(it)
	}
	if !n.complete() {
		return api.ErrTruncated
	}
	return api.OK
}

// Encode returns the encoding of the data item l, or the error of Validate(l).
func Encode(l []api.Item) ([]byte, api.Errno) {
	if e := Validate(l); e != api.OK {
		return nil, e
	}
	var b []byte
	for _, it := range l {
		b = appendItem(b, it)
	}
	return b, api.OK
}

// Decode reads the data item at the beginning of b; used is the number of its bytes.
func Decode(b []byte) (l []api.Item, used int, e api.Errno) {
	r := reader{input: b}
	for !r.complete() {
		it, e := r.item()
		if e != api.OK {
			return nil, 0, e
		}
		r.enter(it)
		l = append(l, it)
	}
	return l, r.at, api.OK
}

// Skip returns the index behind the data item that begins at the index at. The rest of l need not be valid.
func Skip(l []api.Item, at int) (next int, ok bool) {
	if at < 0 || at >= len(l) {
		return 0, false
	}
	missing := uint64(1)
	for i, it := range l[at:] {
		if tooManyParts(it.Kind, it.Number) {
			return 0, false
		}
		missing += parts(it) - 1
		if missing == 0 {
			return at + i + 1, true
		}
	}
	return 0, false
}

// Lookup returns the value of the key ItemUint with the Number key, if l is a valid map that has it.
func Lookup(l []api.Item, key uint64) (value []api.Item, ok bool) {
	if Validate(l) != api.OK || l[0].Kind != api.ItemMap {
		return nil, false
	}
	for at := 1; at < len(l); {
		next, _ := Skip(l, at+1) // a key of a valid map has a complete value
		if l[at].Kind == api.ItemUint && l[at].Number == key {
			return slices.Clone(l[at+1 : next]), true
		}
		at = next
	}
	return nil, false
}
