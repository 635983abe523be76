package cbor_test

import (
	"bytes"
	"math/rand"
	"slices"
	"strings"
	"testing"

	"passkey/api"
	"passkey/cbor"
)

// pairsBytes is the encoding of the n pairs of the map numbered(n), without its head.
func pairsBytes(n int) string {
	b, _ := cbor.Encode(numbered(n))
	if n < 24 {
		return string(b[1:])
	}
	return string(b[2:])
}

type decoding struct {
	b    string
	want api.Errno
}

// checkDecoding is about the errors of P1.4.
func checkDecoding(t *testing.T, tests []decoding) {
	t.Helper()
	for _, x := range tests {
		if l, used, e := cbor.Decode([]byte(x.b)); e != x.want || e != api.OK && (len(l) != 0 || used != 0) {
			t.Errorf("Decode(%x) = %v, %d, %d, want the error %d", x.b, l, used, e, x.want)
		}
	}
}

func TestDecodeErrorsOfHeads(t *testing.T) {
	checkDecoding(t, []decoding{{"", api.ErrTruncated}, {"\x81", api.ErrTruncated}, {"\xa1\x01", api.ErrTruncated}})
	for _, major := range []byte{0x00, 0x20, 0x40, 0x60, 0x80, 0xa0} {
		head := func(low byte, rest string) string { return string([]byte{major | low}) + rest }
		checkDecoding(t, []decoding{
			{head(24, ""), api.ErrTruncated},
			{head(25, "\x01"), api.ErrTruncated},
			{head(26, "\x01\x00\x00"), api.ErrTruncated},
			{head(27, "\x01\x00\x00\x00\x00\x00\x00"), api.ErrTruncated},
			{head(24, "\x00"), api.ErrSyntax},
			{head(24, "\x17"), api.ErrSyntax},
			{head(25, "\x00\xff"), api.ErrSyntax},
			{head(26, "\x00\x00\xff\xff"), api.ErrSyntax},
			{head(27, "\x00\x00\x00\x00\xff\xff\xff\xff"), api.ErrSyntax},
			{head(28, ""), api.ErrSyntax},
			{head(29, ""), api.ErrSyntax},
			{head(30, ""), api.ErrSyntax},
			{head(31, "\xff"), api.ErrSyntax},
		})
	}
}

// TestDecodeOfEveryFirstByte has nothing behind the first byte.
func TestDecodeOfEveryFirstByte(t *testing.T) {
	for first := range 256 {
		major, low := first>>5, first&31
		want := api.ErrSyntax
		switch {
		case major <= 1 && low < 24, major <= 5 && low == 0, first >= 0xf4 && first <= 0xf6:
			want = api.OK
		case major <= 5 && low <= 27:
			want = api.ErrTruncated
		}
		checkDecoding(t, []decoding{{string([]byte{byte(first)}), want}})
		checkOneEncoding(t, []byte{byte(first)})
	}
}

func TestDecodeErrorsOfContent(t *testing.T) {
	checkDecoding(t, []decoding{
		{"\x41", api.ErrTruncated},
		{"\x62a", api.ErrTruncated},
		{"\x82\x00", api.ErrTruncated},
		{"\xa2\x01\x02\x03", api.ErrTruncated},
		{"\x61\xff", api.ErrText},
		{"\x63\xed\xa0\x80", api.ErrText},
		{"\x41\xff", api.OK},
		{"\x59\x04\x00" + strings.Repeat("\xff", 1024), api.OK},
		{"\x59\x04\x01" + strings.Repeat("\xff", 1025), api.ErrTooLarge},
		{"\x79\x04\x01" + strings.Repeat("a", 1025), api.ErrTooLarge},
		{"\x5b\xff\xff\xff\xff\xff\xff\xff\xff", api.ErrTooLarge},
		{"\x99\x02\x00", api.ErrTruncated},
		{"\xb9\x02\x00", api.ErrTruncated},
		{"\x99\x02\x01", api.ErrTooLarge},
		{"\xb9\x02\x01", api.ErrTooLarge},
		{"\xbb\x80\x00\x00\x00\x00\x00\x00\x00", api.ErrTooLarge},
		{"\x99\x01\xff" + strings.Repeat("\x00", 511), api.OK},
		{"\x99\x02\x00" + strings.Repeat("\x00", 512), api.ErrTooLarge},
		{nestedBytes(8) + "\x00", api.OK},
		{nestedBytes(8) + "\x80", api.OK},
		{nestedBytes(9) + "\x00", api.ErrDepth},
		{nestedBytes(8) + "\xa1\x00\x00", api.ErrDepth},
		{"\xa1\x40\x00", api.ErrKind},
		{"\xa1\x80\x00", api.ErrKind},
		{"\xa1\xa0\x00", api.ErrKind},
		{"\xa1\xf4\x00", api.ErrKind},
		{"\xa1\xf6\x00", api.ErrKind},
		{"\xa2\x01\x00\x01\x00", api.ErrOrder},
		{"\xa2\x02\x00\x01\x00", api.ErrOrder},
		{"\xa2\x20\x00\x17\x00", api.ErrOrder},
		{"\xa2\x18\x18\x00\x60\x00", api.ErrOrder},
		{"\xa2\x60\x00\x18\x18\x00", api.OK},
		{"\xa2\x02\xa1\x01\x00\x03\x00", api.OK},
		{"\xa2\x02\xa1\x05\x00\x01\x00", api.ErrOrder},
	})
}

// TestDecodeOrderOfErrors has bytes with two errors, of which the first one counts.
func TestDecodeOrderOfErrors(t *testing.T) {
	full := "\x99\x02\x00" + strings.Repeat("\x00", 511)
	keys := "\x81\xb9\x01\x00" + pairsBytes(255)
	checkDecoding(t, []decoding{
		{full, api.ErrTruncated},
		{full + "\x1c", api.ErrSyntax},
		{full + "\x18", api.ErrTruncated},
		{full + "\x18\x17", api.ErrSyntax},
		{full + "\x59\x04\x01", api.ErrTooLarge},
		{full + "\x61\xff", api.ErrTooLarge},
		{full + "\x62\xff", api.ErrTooLarge},
		{keys + "\x40", api.ErrTooLarge},
		{"\xa1\x58\x17", api.ErrSyntax},
		{"\xa1\x58", api.ErrTruncated},
		{nestedBytes(8) + "\xa1\x40", api.ErrKind},
		{"\xa1\x59\x04\x01", api.ErrKind},
		{"\xa1\x42", api.ErrKind},
		{nestedBytes(9), api.ErrTruncated},
		{nestedBytes(9) + "\x18\x17", api.ErrSyntax},
		{nestedBytes(9) + "\x59\x04\x01", api.ErrDepth},
		{nestedBytes(9) + "\x42", api.ErrDepth},
		{nestedBytes(9) + "\x61\xff", api.ErrDepth},
		{"\x79\x04\x01\xff", api.ErrTooLarge},
		{"\x62\xff", api.ErrTruncated},
		{"\xa2\x62aa\x00\x61", api.ErrTruncated},
		{"\xa2\x62aa\x00\x61\xff", api.ErrText},
		{"\xa2\x62aa\x00\x61a", api.ErrOrder},
		{"\x82\x61\xff\x1c", api.ErrText},
		{"\x82\x1c\x61\xff", api.ErrSyntax},
	})
}

// TestDecodeIgnoresFurtherBytes is about P1.4 and the first sentence of P1.8.
func TestDecodeIgnoresFurtherBytes(t *testing.T) {
	for _, l := range samples() {
		b, e := cbor.Encode(l)
		if e != api.OK {
			t.Fatalf("Encode(%v) returns %d", l, e)
		}
		for _, rest := range []string{"", "\x00", "\xff\xff", "\xa1", string(b)} {
			input := append(slices.Clone(b), rest...)
			before := slices.Clone(input)
			got, used, e := cbor.Decode(input)
			if !slices.Equal(got, l) || used != len(b) || e != api.OK {
				t.Errorf("Decode(%x) = %v, %d, %d, want %v, %d", input, got, used, e, l, len(b))
			}
			if !bytes.Equal(input, before) {
				t.Errorf("Decode changed its argument %x", before)
			}
		}
	}
}

// TestPrefixesAreTruncated is about the last sentence of P1.8.
func TestPrefixesAreTruncated(t *testing.T) {
	for _, l := range samples() {
		b, _ := cbor.Encode(l)
		for i := range b {
			if got, used, e := cbor.Decode(b[:i]); e != api.ErrTruncated || len(got) != 0 || used != 0 {
				t.Fatalf("Decode of %d bytes of %x = %v, %d, %d", i, b, got, used, e)
			}
		}
	}
}

// checkOneEncoding is about the second sentence of P1.8.
func checkOneEncoding(t *testing.T, input []byte) bool {
	t.Helper()
	l, used, e := cbor.Decode(input)
	if e != api.OK {
		return false
	}
	if b, e := cbor.Encode(l); e != api.OK || used > len(input) || !bytes.Equal(b, input[:used]) {
		t.Errorf("Decode(%x) = %v, %d, but Encode = %x, %d", input, l, used, b, e)
	}
	return true
}

// TestOneEncoding tries all texts of up to 5 bytes of a small alphabet, which contains heads of all kinds and forms.
func TestOneEncoding(t *testing.T) {
	alphabet := []byte{0x00, 0x17, 0x18, 0x19, 0x20, 0x41, 0x58, 0x61, 0x81, 0x82, 0xa1, 0xa2, 0xf5, 0xf6, 0xff}
	accepted := 0
	var extend func(input []byte)
	extend = func(input []byte) {
		if checkOneEncoding(t, input) {
			accepted++
		}
		if len(input) == 5 || t.Failed() {
			return
		}
		for _, x := range alphabet {
			extend(append(slices.Clone(input), x))
		}
	}
	extend(nil)
	if accepted == 0 {
		t.Error("Decode accepts none of the texts")
	}
}

// TestRandomItems is about P1.8 for data items and changed encodings of them that nobody wrote down.
func TestRandomItems(t *testing.T) {
	source := rand.New(rand.NewSource(1))
	for range 3000 {
		l := randomItem(source, 4)
		b, e := cbor.Encode(l)
		if e != api.OK {
			t.Fatalf("Encode(%v) returns %d", l, e)
		}
		got, used, e := cbor.Decode(b)
		if !slices.Equal(got, l) || used != len(b) || e != api.OK {
			t.Fatalf("Decode(%x) = %v, %d, %d, want %v", b, got, used, e, l)
		}
		if next, ok := cbor.Skip(l, 0); next != len(l) || !ok {
			t.Fatalf("Skip(%v, 0) = %d, %t", l, next, ok)
		}
		for range 20 {
			changed := slices.Clone(b)
			changed[source.Intn(len(changed))] = byte(source.Intn(256))
			checkOneEncoding(t, changed)
		}
	}
}

// randomItem returns a valid data item that has at most depth levels.
func randomItem(source *rand.Rand, depth int) []api.Item {
	kinds := 8
	if depth == 0 {
		kinds = 6
	}
	switch source.Intn(kinds) {
	case 0:
		return cbor.Uint(source.Uint64() >> source.Intn(64))
	case 1:
		return list(negative(source.Uint64() >> source.Intn(64)))
	case 2:
		return cbor.Bytes([]byte(strings.Repeat("\xff", source.Intn(30))))
	case 3:
		return cbor.Text(strings.Repeat("é", source.Intn(30)))
	case 4:
		return cbor.Bool(source.Intn(2) == 1)
	case 5:
		return list(null())
	case 6:
		l := list(array(uint64(source.Intn(4))))
		for range l[0].Number {
			l = append(l, randomItem(source, depth-1)...)
		}
		return l
	}
	l, key := list(pairs(uint64(source.Intn(4)))), uint64(0)
	for range l[0].Number {
		key += 1 + uint64(source.Intn(300))
		l = append(append(l, number(key)), randomItem(source, depth-1)...)
	}
	return l
}
