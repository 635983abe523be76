package cbor_test

import (
	"slices"
	"strings"
	"testing"

	"passkey/api"
	"passkey/cbor"
)

type validity struct {
	name string
	l    []api.Item
	want api.Errno
}

// checkValidity is about P1.2, and about the errors of P1.3, which are the same.
func checkValidity(t *testing.T, tests []validity) {
	t.Helper()
	for _, x := range tests {
		before := slices.Clone(x.l)
		if e := cbor.Validate(x.l); e != x.want {
			t.Errorf("P1.2, %s: Validate = %d, want %d", x.name, e, x.want)
		}
		if b, e := cbor.Encode(x.l); e != x.want || (e != api.OK) != (len(b) == 0) {
			t.Errorf("P1.3, %s: Encode = %x, %d, want the error %d", x.name, b, e, x.want)
		}
		if !slices.Equal(before, x.l) {
			t.Errorf("R2, %s: the argument was changed", x.name)
		}
	}
}

func TestValidateAcceptsSamples(t *testing.T) {
	for _, l := range samples() {
		checkValidity(t, []validity{{"a sample", l, api.OK}})
	}
}

func TestValidateOfOneItem(t *testing.T) {
	long := strings.Repeat("a", api.MaxData+1)
	checkValidity(t, []validity{
		{"kind 0", list(item(api.ItemNone, 0)), api.ErrKind},
		{"kind -1", list(item(-1, 0)), api.ErrKind},
		{"kind 9", list(item(api.ItemNull+1, 0)), api.ErrKind},
		{"bytes with a number", list(api.Item{Kind: api.ItemBytes, Number: 1, Data: "a"}), api.ErrShape},
		{"text with a number", list(api.Item{Kind: api.ItemText, Number: 1, Data: "a"}), api.ErrShape},
		{"null with a number", list(item(api.ItemNull, 1)), api.ErrShape},
		{"bool 2", list(boolean(2)), api.ErrShape},
		{"uint with data", list(api.Item{Kind: api.ItemUint, Data: "a"}), api.ErrShape},
		{"negative with data", list(api.Item{Kind: api.ItemNegative, Data: "a"}), api.ErrShape},
		{"array with data", list(api.Item{Kind: api.ItemArray, Data: "a"}), api.ErrShape},
		{"map with data", list(api.Item{Kind: api.ItemMap, Data: "a"}), api.ErrShape},
		{"bool with data", list(api.Item{Kind: api.ItemBool, Data: "a"}), api.ErrShape},
		{"null with data", list(api.Item{Kind: api.ItemNull, Data: "a"}), api.ErrShape},
		{"long bytes", list(data(long)), api.ErrTooLarge},
		{"long text", list(text(long)), api.ErrTooLarge},
		{"longest bytes", list(data(long[1:])), api.OK},
		{"longest text", list(text(long[1:])), api.OK},
		{"large array", list(array(api.MaxItems + 1)), api.ErrTooLarge},
		{"large map", list(pairs(api.MaxItems + 1)), api.ErrTooLarge},
		{"largest numbers of elements", list(array(1<<64 - 1)), api.ErrTooLarge},
		{"number of pairs whose double is 0 modulo 2^64", list(pairs(1 << 63)), api.ErrTooLarge},
		{"array that is as large as possible", list(array(api.MaxItems)), api.ErrTruncated},
		{"map that is as large as possible", list(pairs(api.MaxItems)), api.ErrTruncated},
		{"invalid UTF-8", list(text("a\xff")), api.ErrText},
		{"surrogate", list(text("\xed\xa0\x80")), api.ErrText},
		{"overlong UTF-8", list(text("\xc0\x80")), api.ErrText},
		{"bytes that are no UTF-8", list(data("a\xff")), api.OK},
	})
}

func TestValidateOfWholeLists(t *testing.T) {
	checkValidity(t, []validity{
		{"nil", nil, api.ErrTruncated},
		{"empty", []api.Item{}, api.ErrTruncated},
		{"array without element", list(array(1)), api.ErrTruncated},
		{"map without value", list(pairs(1), number(1)), api.ErrTruncated},
		{"map without second pair", list(pairs(2), number(1), number(1)), api.ErrTruncated},
		{"outer array not complete", list(array(2), array(1), null()), api.ErrTruncated},
		{"two items", list(null(), null()), api.ErrSyntax},
		{"item behind an empty array", list(array(0), null()), api.ErrSyntax},
		{"item behind nested arrays", nested(3, array(0), null()), api.ErrSyntax},
		{"item behind a map", list(pairs(1), number(1), number(1), number(2)), api.ErrSyntax},
		{"as many items as possible", zeros(api.MaxItems - 1), api.OK},
		{"one item more", zeros(api.MaxItems), api.ErrTooLarge},
		{"depth 8", nested(api.MaxDepth, number(1)), api.OK},
		{"depth 9", nested(api.MaxDepth+1, number(1)), api.ErrDepth},
		{"empty containers at depth 8", nested(api.MaxDepth-1, array(2), array(0), pairs(0)), api.OK},
		{"key at depth 9", nested(api.MaxDepth, pairs(1), number(1), number(1)), api.ErrDepth},
		{"complete containers do not count", append(list(array(2)), append(nested(7, null()), nested(7, null())...)...), api.OK},
		{"maps count for the depth", append(slices.Repeat(list(pairs(1), number(0)), api.MaxDepth), null()), api.OK},
		{"maps count for the depth", append(slices.Repeat(list(pairs(1), number(0)), api.MaxDepth+1), null()), api.ErrDepth},
	})
}

func TestValidateOfKeys(t *testing.T) {
	key := func(keys ...api.Item) []api.Item {
		l := list(pairs(uint64(len(keys))))
		for _, k := range keys {
			l = append(l, k, null())
		}
		return l
	}
	checkValidity(t, []validity{
		{"bytes", key(data("a")), api.ErrKind},
		{"array", list(pairs(1), array(0), null()), api.ErrKind},
		{"map", list(pairs(1), pairs(0), null()), api.ErrKind},
		{"bool", key(boolean(1)), api.ErrKind},
		{"null", key(null()), api.ErrKind},
		{"second key is bytes", key(number(1), data("a")), api.ErrKind},
		{"all kinds of keys", key(number(0), number(23), negative(0), negative(23), text(""), number(24), negative(24), text("a"), text("b"), text("aa")), api.OK},
		{"same number", key(number(1), number(1)), api.ErrOrder},
		{"same text", key(text("a"), text("a")), api.ErrOrder},
		{"descending", key(number(2), number(1)), api.ErrOrder},
		{"third is not greater", key(number(1), number(3), number(2)), api.ErrOrder},
		{"negative before uint", key(negative(0), number(0)), api.ErrOrder},
		{"text before negative", key(text(""), negative(0)), api.ErrOrder},
		{"longer before shorter", key(number(24), negative(0)), api.ErrOrder},
		{"longer text before shorter", key(text("aa"), text("b")), api.ErrOrder},
		{"text before number of equal length", key(text("a"), number(24)), api.ErrOrder},
		{"large numbers", key(number(255), number(256)), api.OK},
		{"large numbers descending", key(number(256), number(255)), api.ErrOrder},
		{"inner map has its own order", list(pairs(2), number(4), pairs(2), number(1), null(), number(9), null(), number(5), null()), api.OK},
		{"outer order goes on behind an inner map", list(pairs(2), number(4), pairs(1), number(1), null(), number(3), null()), api.ErrOrder},
		{"outer order goes on behind an array", list(pairs(2), number(4), array(1), null(), number(4), null()), api.ErrOrder},
		{"values are not keys", list(pairs(2), number(1), number(9), number(2), number(3)), api.OK},
		{"value may be of any kind", list(pairs(2), number(1), data("\xff"), number(2), pairs(0)), api.OK},
		{"elements are not keys", list(array(2), number(2), number(1)), api.OK},
		{"elements of an array in a map are not keys", list(pairs(1), number(1), array(2), data(""), data("")), api.OK},
		{"next map begins anew", list(array(2), pairs(1), number(5), null(), pairs(1), number(5), null()), api.OK},
	})
}

// TestValidateOrderOfErrors has items with two errors, of which the first one counts.
func TestValidateOrderOfErrors(t *testing.T) {
	long := strings.Repeat("\xff", api.MaxData+1)
	full := zeros(api.MaxItems - 1)
	checkValidity(t, []validity{
		{"syntax before kind", list(null(), item(0, 0)), api.ErrSyntax},
		{"syntax before too large", append(slices.Clone(full), null()), api.ErrSyntax},
		{"too many items before kind", append(zeros(api.MaxItems)[:api.MaxItems], item(0, 0)), api.ErrTooLarge},
		{"too many items before shape", append(zeros(api.MaxItems)[:api.MaxItems], boolean(2)), api.ErrTooLarge},
		{"kind before depth", nested(api.MaxDepth+1, item(0, 0)), api.ErrKind},
		{"kind of a key before depth", nested(api.MaxDepth, pairs(1), data("")), api.ErrKind},
		{"kind of a key before shape", list(pairs(1), boolean(2)), api.ErrKind},
		{"depth before shape", nested(api.MaxDepth+1, boolean(2)), api.ErrDepth},
		{"depth before text", nested(api.MaxDepth+1, text("\xff")), api.ErrDepth},
		{"shape before too large", list(api.Item{Kind: api.ItemText, Number: 1, Data: long}), api.ErrShape},
		{"shape of an array before too large", list(api.Item{Kind: api.ItemArray, Number: 1000, Data: "a"}), api.ErrShape},
		{"too large before text", list(text(long)), api.ErrTooLarge},
		{"text before order", list(pairs(2), text("aa"), null(), text("\xff"), null()), api.ErrText},
		{"first item counts", list(array(2), boolean(2), item(0, 0)), api.ErrShape},
		{"first item counts", list(array(2), item(0, 0), boolean(2)), api.ErrKind},
		{"item before truncation", list(array(3), text("\xff")), api.ErrText},
		{"order before the rest of the map", list(pairs(3), number(1), null(), number(1)), api.ErrOrder},
	})
}
