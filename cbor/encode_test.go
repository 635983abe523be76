package cbor_test

import (
	"slices"
	"strings"
	"testing"

	"passkey/api"
	"passkey/cbor"
)

// TestEncodingOfItems is about P1.1.
func TestEncodingOfItems(t *testing.T) {
	tests := []struct {
		it   api.Item
		want string
	}{
		{boolean(0), "\xf4"},
		{boolean(1), "\xf5"},
		{null(), "\xf6"},
		{number(0), "\x00"},
		{number(1), "\x01"},
		{number(23), "\x17"},
		{number(24), "\x18\x18"},
		{number(255), "\x18\xff"},
		{number(256), "\x19\x01\x00"},
		{number(65535), "\x19\xff\xff"},
		{number(65536), "\x1a\x00\x01\x00\x00"},
		{number(1<<32 - 1), "\x1a\xff\xff\xff\xff"},
		{number(1 << 32), "\x1b\x00\x00\x00\x01\x00\x00\x00\x00"},
		{number(0x0102030405060708), "\x1b\x01\x02\x03\x04\x05\x06\x07\x08"},
		{number(1<<64 - 1), "\x1b\xff\xff\xff\xff\xff\xff\xff\xff"},
		{negative(0), "\x20"},
		{negative(23), "\x37"},
		{negative(24), "\x38\x18"},
		{negative(1<<64 - 1), "\x3b\xff\xff\xff\xff\xff\xff\xff\xff"},
		{data(""), "\x40"},
		{data("\x00\xff"), "\x42\x00\xff"},
		{data(strings.Repeat("\xfe", 23)), "\x57" + strings.Repeat("\xfe", 23)},
		{data(strings.Repeat("\xfe", 24)), "\x58\x18" + strings.Repeat("\xfe", 24)},
		{data(strings.Repeat("\xfe", 256)), "\x59\x01\x00" + strings.Repeat("\xfe", 256)},
		{text(""), "\x60"},
		{text("é"), "\x62\xc3\xa9"},
		{text(strings.Repeat("a", 24)), "\x78\x18" + strings.Repeat("a", 24)},
		{text(strings.Repeat("a", 1024)), "\x79\x04\x00" + strings.Repeat("a", 1024)},
		{array(0), "\x80"},
		{pairs(0), "\xa0"},
	}
	for _, x := range tests {
		if b, e := cbor.Encode(list(x.it)); string(b) != x.want || e != api.OK {
			t.Errorf("Encode(%v) = %x, %d, want %x", x.it, b, e, x.want)
		}
	}
}

// TestHeadsOfContainers is about P1.1: the argument of an array or map is the number of its elements or pairs.
func TestHeadsOfContainers(t *testing.T) {
	tests := []struct {
		l    []api.Item
		want string
	}{
		{zeros(1), "\x81"},
		{zeros(23), "\x97"},
		{zeros(24), "\x98\x18"},
		{zeros(256), "\x99\x01\x00"},
		{numbered(1), "\xa1"},
		{numbered(23), "\xb7"},
		{numbered(24), "\xb8\x18"},
		{numbered(255), "\xb8\xff"},
	}
	for _, x := range tests {
		b, e := cbor.Encode(x.l)
		if e != api.OK || !strings.HasPrefix(string(b), x.want) {
			t.Errorf("Encode of %v.. = %x, %d, want a beginning %x", x.l[0], b, e, x.want)
		}
	}
}

// TestEncodeJoinsItems is about P1.3.
func TestEncodeJoinsItems(t *testing.T) {
	for _, l := range samples() {
		var want []byte
		for _, it := range l {
			want = append(want, encodingOfOne(t, it)...)
		}
		before := slices.Clone(l)
		b, e := cbor.Encode(l)
		if !slices.Equal(b, want) || e != api.OK {
			t.Errorf("Encode(%v) = %x, %d, want %x", l, b, e, want)
		}
		if !slices.Equal(l, before) {
			t.Errorf("Encode changed its argument %v", before)
		}
	}
}

// encodingOfOne returns the encoding of an item without the items that it contains. It completes an array or map to encode it, and cuts its content, of which each item has one byte, off.
func encodingOfOne(t *testing.T, it api.Item) []byte {
	l := list(it)
	switch it.Kind {
	case api.ItemArray:
		l = zeros(int(it.Number))
	case api.ItemMap:
		b, _ := cbor.Encode(zeros(int(it.Number)))
		head := b[:len(b)-int(it.Number)]
		head[0] += 0x20
		return head
	}
	b, e := cbor.Encode(l)
	if e != api.OK {
		t.Fatalf("Encode(%v) returns %d", l, e)
	}
	return b[:len(b)-len(l)+1]
}

// TestEncodeExamples is about the chapter's examples.
func TestEncodeExamples(t *testing.T) {
	if b, e := cbor.Encode(list(number(24))); string(b) != "\x18\x18" || e != api.OK {
		t.Errorf("Encode = %x, %d", b, e)
	}
	if b, e := cbor.Encode(list(pairs(1), number(1), text("a"))); string(b) != "\xa1\x01\x61\x61" || e != api.OK {
		t.Errorf("Encode = %x, %d", b, e)
	}
	if l, used, e := cbor.Decode([]byte{0x18, 0x17}); len(l) != 0 || used != 0 || e != api.ErrSyntax {
		t.Errorf("Decode = %v, %d, %d", l, used, e)
	}
}
