package cbor_test

import (
	"slices"
	"strings"
	"testing"

	"passkey/api"
	"passkey/cbor"
)

// TestConstructors is about P1.7.
func TestConstructors(t *testing.T) {
	long := strings.Repeat("a", api.MaxData+1)
	tests := []struct {
		name string
		got  []api.Item
		want api.Item
	}{
		{"Uint", cbor.Uint(7), number(7)},
		{"largest Uint", cbor.Uint(1<<64 - 1), number(1<<64 - 1)},
		{"Bytes", cbor.Bytes([]byte{0xff, 0}), data("\xff\x00")},
		{"no Bytes", cbor.Bytes(nil), data("")},
		{"long Bytes", cbor.Bytes([]byte(long)), data(long)},
		{"Text", cbor.Text("é"), text("é")},
		{"empty Text", cbor.Text(""), text("")},
		{"invalid Text", cbor.Text("\xff"), text("\xff")},
		{"long Text", cbor.Text(long), text(long)},
		{"true", cbor.Bool(true), boolean(1)},
		{"false", cbor.Bool(false), boolean(0)},
	}
	for _, x := range tests {
		if !slices.Equal(x.got, list(x.want)) {
			t.Errorf("%s = %v, want %v", x.name, x.got, x.want)
		}
	}
	b := []byte("ab")
	l := cbor.Bytes(b)
	b[0] = 'x'
	if l[0].Data != "ab" {
		t.Errorf("Bytes shares memory with its argument: %v", l)
	}
}

// TestArray is about P1.7.
func TestArray(t *testing.T) {
	many := slices.Repeat([][]api.Item{list(null())}, api.MaxItems+1)
	wide := zeros(255)
	tests := []struct {
		name   string
		values [][]api.Item
		want   []api.Item
		err    api.Errno
	}{
		{"empty", nil, list(array(0)), api.OK},
		{"one", [][]api.Item{list(null())}, list(array(1), null()), api.OK},
		{"keeps the order", [][]api.Item{cbor.Uint(2), zeros(1), cbor.Uint(1), cbor.Uint(2)}, list(array(4), number(2), array(1), number(0), number(1), number(2)), api.OK},
		{"as many as possible", many[:api.MaxItems-1], append(list(array(api.MaxItems-1)), slices.Repeat(list(null()), api.MaxItems-1)...), api.OK},
		{"too many items", many[:api.MaxItems], nil, api.ErrTooLarge},
		{"too many elements", many, nil, api.ErrTooLarge},
		{"too many items together", [][]api.Item{wide, wide}, nil, api.ErrTooLarge},
		{"deep", [][]api.Item{nested(api.MaxDepth-1, null())}, nested(api.MaxDepth, null()), api.OK},
		{"too deep", [][]api.Item{nested(api.MaxDepth, null())}, nil, api.ErrDepth},
		{"empty value", [][]api.Item{list(null()), nil}, nil, api.ErrTruncated},
		{"value with an item behind", [][]api.Item{list(null(), null())}, nil, api.ErrSyntax},
		{"two values that are complete only together", [][]api.Item{list(array(1)), list(null())}, nil, api.ErrTruncated},
		{"first invalid value counts", [][]api.Item{list(null()), cbor.Text("\xff"), nil}, nil, api.ErrText},
		{"first invalid value counts", [][]api.Item{list(null()), nil, cbor.Text("\xff")}, nil, api.ErrTruncated},
		{"value before too deep", [][]api.Item{nested(api.MaxDepth, null()), cbor.Text("\xff")}, nil, api.ErrText},
		{"value before too many elements", append(slices.Clone(many), cbor.Text("\xff")), nil, api.ErrText},
	}
	for _, x := range tests {
		before := cloneValues(x.values)
		if l, e := cbor.Array(x.values); !slices.Equal(l, x.want) || e != x.err {
			t.Errorf("%s: Array = %v, %d, want %v, %d", x.name, l, e, x.want, x.err)
		}
		if !slices.EqualFunc(before, x.values, slices.Equal) {
			t.Errorf("%s: the argument was changed", x.name)
		}
	}
}

func cloneValues(values [][]api.Item) [][]api.Item {
	var c [][]api.Item
	for _, v := range values {
		c = append(c, slices.Clone(v))
	}
	return c
}

// TestMap is about P1.7.
func TestMap(t *testing.T) {
	none := list(null())
	many, nulls := make([]uint64, api.MaxItems+1), slices.Repeat([][]api.Item{none}, api.MaxItems+1)
	for i := range many {
		many[i] = uint64(api.MaxItems - i)
	}
	tests := []struct {
		name   string
		keys   []uint64
		values [][]api.Item
		want   []api.Item
		err    api.Errno
	}{
		{"empty", nil, nil, list(pairs(0)), api.OK},
		{"one", []uint64{9}, [][]api.Item{zeros(1)}, list(pairs(1), number(9), array(1), number(0)), api.OK},
		{"sorts", []uint64{300, 0, 24, 1<<64 - 1, 23}, [][]api.Item{cbor.Uint(1), cbor.Uint(2), zeros(1), cbor.Uint(4), cbor.Uint(5)},
			list(pairs(5), number(0), number(2), number(23), number(5), number(24), array(1), number(0), number(300), number(1), number(1<<64-1), number(4)), api.OK},
		{"fewer values", []uint64{1, 2}, [][]api.Item{none}, nil, api.ErrShape},
		{"fewer keys", []uint64{1}, [][]api.Item{none, none}, nil, api.ErrShape},
		{"no values", []uint64{1}, nil, nil, api.ErrShape},
		{"shape before duplicate", []uint64{1, 1}, [][]api.Item{none}, nil, api.ErrShape},
		{"duplicate", []uint64{1, 2, 1}, [][]api.Item{none, none, none}, nil, api.ErrDuplicate},
		{"duplicate before values", []uint64{1, 1}, [][]api.Item{nil, nil}, nil, api.ErrDuplicate},
		{"duplicate before too many pairs", append(slices.Clone(many), 0), append(slices.Clone(nulls), none), nil, api.ErrDuplicate},
		{"invalid value", []uint64{1, 2}, [][]api.Item{none, nil}, nil, api.ErrTruncated},
		{"first invalid value counts", []uint64{2, 1}, [][]api.Item{cbor.Text("\xff"), nil}, nil, api.ErrText},
		{"value before too deep", []uint64{1, 2}, [][]api.Item{nested(api.MaxDepth, null()), nil}, nil, api.ErrTruncated},
		{"deep", []uint64{1}, [][]api.Item{nested(api.MaxDepth-1, null())}, append(list(pairs(1), number(1)), nested(api.MaxDepth-1, null())...), api.OK},
		{"too deep", []uint64{1}, [][]api.Item{nested(api.MaxDepth, null())}, nil, api.ErrDepth},
		{"too many items", many[:256], nulls[:256], nil, api.ErrTooLarge},
		{"too many pairs", many, nulls, nil, api.ErrTooLarge},
	}
	for _, x := range tests {
		keys, values := slices.Clone(x.keys), cloneValues(x.values)
		if l, e := cbor.Map(x.keys, x.values); !slices.Equal(l, x.want) || e != x.err {
			t.Errorf("%s: Map = %v, %d, want %v, %d", x.name, l, e, x.want, x.err)
		}
		if !slices.Equal(keys, x.keys) || !slices.EqualFunc(values, x.values, slices.Equal) {
			t.Errorf("%s: an argument was changed", x.name)
		}
	}
	if l, e := cbor.Map(many[:255], nulls[:255]); len(l) != 511 || e != api.OK {
		t.Errorf("Map with 255 pairs = %v, %d", l, e)
	}
}

// TestContainersAreNewMemory is about R2.
func TestContainersAreNewMemory(t *testing.T) {
	value := list(array(1), null())
	l, _ := cbor.Array([][]api.Item{value})
	m, _ := cbor.Map([]uint64{1}, [][]api.Item{value})
	value[1] = number(5)
	if l[2] != null() || m[3] != null() {
		t.Errorf("a result shares memory with a value: %v, %v", l, m)
	}
}
