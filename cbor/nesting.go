package cbor

import (
	"unicode/utf8"

	"passkey/api"
)

// level is an array or map that is not complete yet.
type level struct {
	isMap   bool
	missing uint64
	lastKey api.Item // its Kind is ItemNone before the first key
}

// nesting knows where in a data item the next item stands, and which errors it has there.
type nesting struct {
	count  int
	levels []level
}

func (n *nesting) complete() bool {
	return n.count > 0 && len(n.levels) == 0
}

// top returns the innermost level; only a nesting that has levels has one.
func (n *nesting) top() *level {
	return &n.levels[len(n.levels)-1]
}

// atKey reports whether the next item is a key of a map.
func (n *nesting) atKey() bool {
	return len(n.levels) > 0 && n.top().isMap && n.top().missing%2 == 0
}

// check returns the first error of the next item in a list.
func (n *nesting) check(it api.Item) api.Errno {
	if n.complete() {
		return api.ErrSyntax
	}
	if e := n.checkPlace(it.Kind); e != api.OK {
		return e
	}
	if !hasShape(it) {
		return api.ErrShape
	}
	if tooLarge(it.Kind, argument(it)) {
		return api.ErrTooLarge
	}
	return n.checkContent(it)
}

// checkPlace examines what can be said before the content of the next item is known.
func (n *nesting) checkPlace(kind int) api.Errno {
	switch {
	case n.count >= api.MaxItems:
		return api.ErrTooLarge
	case kind < api.ItemUint || kind > api.ItemNull:
		return api.ErrKind
	case n.atKey() && !canBeKey(kind):
		return api.ErrKind
	case len(n.levels) > api.MaxDepth:
		return api.ErrDepth
	}
	return api.OK
}

func (n *nesting) checkContent(it api.Item) api.Errno {
	if it.Kind == api.ItemText && !utf8.ValidString(it.Data) {
		return api.ErrText
	}
	if n.atKey() && n.top().lastKey.Kind != api.ItemNone && compareEncodings(n.top().lastKey, it) >= 0 {
		return api.ErrOrder
	}
	return api.OK
}

// enter moves behind the next item, which has no error.
func (n *nesting) enter(it api.Item) {
	n.count++
	if n.atKey() {
		n.top().lastKey = it
	}
	if len(n.levels) > 0 {
		n.top().missing--
	}
	if p := parts(it); p > 0 {
		n.levels = append(n.levels, level{isMap: it.Kind == api.ItemMap, missing: p})
	}
	for len(n.levels) > 0 && n.top().missing == 0 {
		n.levels = n.levels[:len(n.levels)-1]
	}
}

func canBeKey(kind int) bool {
	return kind == api.ItemUint || kind == api.ItemNegative || kind == api.ItemText
}

// hasData reports whether items of this kind contain Data.
func hasData(kind int) bool {
	return kind == api.ItemBytes || kind == api.ItemText
}

// hasShape reports whether the fields of it that its kind does not use are empty.
func hasShape(it api.Item) bool {
	if it.Data != "" && !hasData(it.Kind) {
		return false
	}
	switch it.Kind {
	case api.ItemBytes, api.ItemText, api.ItemNull:
		return it.Number == 0
	case api.ItemBool:
		return it.Number <= 1
	}
	return true
}

// tooLarge reports whether the argument n is above the limit for this kind.
func tooLarge(kind int, n uint64) bool {
	return hasData(kind) && n > api.MaxData || tooManyParts(kind, n)
}

func tooManyParts(kind int, n uint64) bool {
	return (kind == api.ItemArray || kind == api.ItemMap) && n > api.MaxItems
}

// parts returns how many data items an array or map contains directly. It is exact as long as there are not too many parts.
func parts(it api.Item) uint64 {
	switch it.Kind {
	case api.ItemArray:
		return it.Number
	case api.ItemMap:
		return 2 * it.Number
	}
	return 0
}
