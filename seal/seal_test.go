package seal_test

import (
	"bytes"
	"encoding/hex"
	"testing"

	"passkey/api"
	"passkey/digest"
	"passkey/seal"
)

// boxes are texts with their boxes, which come from another implementation of the chapters 2 and 6.
var boxes = []struct {
	key, nonce  uint64
	bound, text string
	box         string
}{
	{0, 0, "", "", "0000000000000000e9067674ba4d7058"},
	{0x0123456789abcdef, 0xfedcba9876543210, "", "", "fedcba987654321028a940380e9f47da"},
	{1, 2, "bound", "", "0000000000000002afb71692515db746"},
	{1, 2, "", "a", "00000000000000029fd8333dac032ad525"},
	{1, 2, "bound", "a text", "00000000000000029f305b0996cc844bcf2a369033c2"},
	{0x0123456789abcdef, 0xfedcba9876543210, "\x00\xff", "eight by", "fedcba9876543210038ef5d979aa02b5295c24eb3a186f2b"},
	{1<<64 - 1, 1<<64 - 1, "example.com", "nine byte", "ffffffffffffffffc962dd99df9f41cf450bf9a1ff12d62711"},
	{1 << 63, 1 << 63, string(make([]byte, 16)), string(make([]byte, 16)), "8000000000000000a1ada4816c982fb7cfb4ae445b6886ac61a28a07fb2f9e7d"},
	{3, 4, "\x00", "", "000000000000000431684beb69203f9d"},
	{3, 4, "", "\x00", "00000000000000040e372d3ecab5178422"},
}

// TestSeal is about P6.2.
func TestSeal(t *testing.T) {
	for _, x := range boxes {
		got, e := seal.Seal(x.key, x.nonce, []byte(x.bound), []byte(x.text))
		if hex.EncodeToString(got) != x.box || e != api.OK {
			t.Errorf("Seal(%#x, %#x, %q, %q) = %x, %d, want %s, OK", x.key, x.nonce, x.bound, x.text, got, e, x.box)
		}
	}
}

// TestOpen is about P6.3.
func TestOpen(t *testing.T) {
	for _, x := range boxes {
		got, e := seal.Open(x.key, []byte(x.bound), unhex(x.box))
		if string(got) != x.text || e != api.OK {
			t.Errorf("Open(%#x, %q, %s) = %q, %d, want %q, OK", x.key, x.bound, x.box, got, e, x.text)
		}
	}
}

// TestExamples has the example of the chapter: the box of an empty text has 16 bytes, whether the lists are nil or empty.
func TestExamples(t *testing.T) {
	for _, bound := range [][]byte{nil, {}} {
		for _, text := range [][]byte{nil, {}} {
			box, e := seal.Seal(5, 6, bound, text)
			if len(box) != 16 || e != api.OK {
				t.Errorf("P6.2: Seal of an empty text = %x, %d, want 16 bytes", box, e)
			}
			if got, e := seal.Open(5, bound, box); len(got) != 0 || e != api.OK {
				t.Errorf("P6.3: Open of the box of an empty text = %x, %d, want no bytes", got, e)
			}
		}
	}
}

// TestSealOfLongTexts is about P6.2 and P6.3 at the limits. The sums of the boxes come from another implementation.
func TestSealOfLongTexts(t *testing.T) {
	tests := []struct {
		bound, text int
		want        uint64
	}{
		{0, 1024, 0xa7b247c40304689c},
		{1024, 0, 0xd3a069bd642eccbc},
		{1024, 1024, 0x9b5be248372b4b39},
		{1023, 1023, 0xb901063752091cdc},
		{255, 256, 0xce4bdb179cffc0ee},
		{256, 255, 0x35d3873325eff4c0},
	}
	for _, x := range tests {
		bound, text := ascending(x.bound), ascending(x.text)
		box, e := seal.Seal(7, 8, bound, text)
		if len(box) != x.text+16 || digest.Sum(0, 0, box) != x.want || e != api.OK {
			t.Errorf("Seal of %d bytes, bound to %d = %x, %d, want a box of %d bytes with the sum %#x", x.text, x.bound, box, e, x.text+16, x.want)
		}
		if got, e := seal.Open(7, bound, box); !bytes.Equal(got, text) || e != api.OK {
			t.Errorf("Open of a box of %d bytes, bound to %d = %x, %d, want %x, OK", len(box), x.bound, got, e, text)
		}
	}
}

// TestSealTooLarge is about P6.2.
func TestSealTooLarge(t *testing.T) {
	for _, x := range [][2]int{{0, 1025}, {1025, 0}, {1024, 1025}, {1025, 1024}, {1025, 1025}, {0, 1 << 20}, {1 << 20, 0}} {
		if got, e := seal.Seal(7, 8, ascending(x[0]), ascending(x[1])); len(got) != 0 || e != api.ErrTooLarge {
			t.Errorf("Seal of %d bytes, bound to %d = %x, %d, want no bytes, ErrTooLarge", x[1], x[0], got, e)
		}
	}
}

// TestOpenTruncated is about P6.3: too few bytes are found before anything else.
func TestOpenTruncated(t *testing.T) {
	whole, _ := seal.Seal(7, 8, nil, nil)
	for n := range 16 {
		for _, bound := range []int{0, 5, 1024, 1025} {
			if got, e := seal.Open(7, ascending(bound), whole[:n]); len(got) != 0 || e != api.ErrTruncated {
				t.Errorf("Open of %d bytes, bound to %d = %x, %d, want no bytes, ErrTruncated", n, bound, got, e)
			}
		}
	}
	if got, e := seal.Open(7, nil, nil); len(got) != 0 || e != api.ErrTruncated {
		t.Errorf("Open of nil = %x, %d, want no bytes, ErrTruncated", got, e)
	}
}

// TestOpenTooLarge is about P6.3: too many bytes are found before the tag, whether it is right or not.
func TestOpenTooLarge(t *testing.T) {
	for _, x := range [][2]int{{0, 1025}, {1024, 1025}, {1025, 0}, {1025, 1024}, {1025, 1025}, {1 << 16, 3}, {3, 1 << 16}} {
		bound := ascending(x[0])
		box := boxOf(7, 8, bound, ascending(x[1]))
		for key := range uint64(8) {
			if got, e := seal.Open(key, bound, box); len(got) != 0 || e != api.ErrTooLarge {
				t.Errorf("Open of a box of %d bytes, bound to %d, with the key %d = %x, %d, want no bytes, ErrTooLarge", len(box), x[0], key, got, e)
			}
		}
	}
}

// TestOpenOfMadeBoxes is about P6.3: what has the right tag is opened, up to the limits.
func TestOpenOfMadeBoxes(t *testing.T) {
	for _, x := range [][2]int{{0, 0}, {0, 1024}, {1024, 0}, {1024, 1024}, {3, 1}, {1, 9}} {
		bound, encrypted := ascending(x[0]), ascending(x[1])
		want := seal.Stream(7, 8, x[1])
		for i := range want {
			want[i] ^= encrypted[i]
		}
		if got, e := seal.Open(7, bound, boxOf(7, 8, bound, encrypted)); !bytes.Equal(got, want) || e != api.OK {
			t.Errorf("Open of a made box with %d bytes, bound to %d = %x, %d, want %x, OK", x[1], x[0], got, e, want)
		}
	}
}

// TestOpenOfChangedBoxes is about P6.3: no bit of a box, of the bound bytes or of the key can be changed.
func TestOpenOfChangedBoxes(t *testing.T) {
	const key = 0x5eed
	for size := range 18 {
		bound := []byte("bound")
		box, _ := seal.Seal(key, 9, bound, ascending(size))
		refuse := func(what string, key uint64, bound, box []byte) {
			if got, e := seal.Open(key, bound, box); len(got) != 0 || e != api.ErrTag {
				t.Errorf("Open of the box of %d bytes with %s changed = %x, %d, want no bytes, ErrTag", size, what, got, e)
			}
		}
		for bit := range 64 {
			refuse("the key", key^1<<bit, bound, box)
		}
		for bit := range 8 * len(box) {
			refuse("the box", key, bound, flipped(box, bit))
		}
		for bit := range 8 * len(bound) {
			refuse("the bound bytes", key, flipped(bound, bit), box)
		}
		refuse("the bound bytes", key, nil, box)
		refuse("the bound bytes", key, []byte("boun"), box)
		refuse("the bound bytes", key, []byte("bound\x00"), box)
		refuse("the length", key, bound, append(bytes.Clone(box), 0))
		refuse("the length", key, bound, append([]byte{0}, box...))
		if size > 0 {
			refuse("the length", key, bound, box[:len(box)-1])
			refuse("the length", key, bound, box[1:])
		}
	}
}

// flipped returns b with another bit.
func flipped(b []byte, bit int) []byte {
	b = bytes.Clone(b)
	b[bit/8] ^= 1 << (bit % 8)
	return b
}

// TestBoundIsNoText is about P6.3: bytes cannot be moved between the bound bytes and the encrypted text.
func TestBoundIsNoText(t *testing.T) {
	box := boxOf(7, 8, []byte("bound"), []byte("text"))
	tag := box[len(box)-8:]
	for i := range 10 {
		if i == 5 {
			continue
		}
		moved := append(bytesOf(8), "boundtext"[i:]...)
		moved = append(moved, tag...)
		if got, e := seal.Open(7, []byte("boundtext"[:i]), moved); len(got) != 0 || e != api.ErrTag {
			t.Errorf("Open with %d bound bytes instead of 5 = %x, %d, want no bytes, ErrTag", i, got, e)
		}
	}
}

// TestRoundTrip is about P6.4: a box is opened to its text, and an opened box is that of its nonce.
func TestRoundTrip(t *testing.T) {
	words := []uint64{0, 1, 0x80, 0x0102030405060708, 1 << 63, 1<<64 - 1}
	for _, key := range words {
		for _, nonce := range words {
			for size := range 20 {
				bound, text := ascending(3*size), ascending(size)
				box, _ := seal.Seal(key, nonce, bound, text)
				if !bytes.Equal(box[:8], bytesOf(nonce)) {
					t.Errorf("the box of the nonce %#x begins with %x", nonce, box[:8])
				}
				got, e := seal.Open(key, bound, box)
				if !bytes.Equal(got, text) || e != api.OK {
					t.Errorf("Open(%#x, %x, %x) = %x, %d, want %x, OK", key, bound, box, got, e, text)
				}
			}
		}
	}
}

// TestOpenedBoxIsSealed is about P6.4, for boxes that Seal has not made.
func TestOpenedBoxIsSealed(t *testing.T) {
	for _, nonce := range []uint64{0, 0x0102030405060708, 1<<64 - 1} {
		for _, size := range []int{0, 1, 8, 1024} {
			bound := ascending(size / 2)
			box := boxOf(5, nonce, bound, ascending(size))
			text, _ := seal.Open(5, bound, box)
			if got, e := seal.Seal(5, nonce, bound, text); !bytes.Equal(got, box) || e != api.OK {
				t.Errorf("Seal of what Open returns with the nonce %#x = %x, %d, want %x, OK", nonce, got, e, box)
			}
		}
	}
}

// TestArgumentsStay is about R2: neither the arguments nor the memory behind them change, and a result is new memory.
func TestArgumentsStay(t *testing.T) {
	memory := ascending(60)
	bound, text := memory[10:20], memory[30:40]
	box, _ := seal.Seal(5, 6, bound, text)
	inside := append(append(ascending(10), box...), ascending(30)...)
	before := bytes.Clone(inside)
	opened, _ := seal.Open(5, bound, inside[10:10+len(box)])
	if !bytes.Equal(memory, ascending(60)) || !bytes.Equal(inside, before) {
		t.Errorf("the memory of the arguments has become %x and %x", memory, inside)
	}
	want := bytes.Clone(box)
	spoil(opened)
	if again, _ := seal.Open(5, bound, box); !bytes.Equal(again, text) || !bytes.Equal(inside, before) {
		t.Errorf("a change of what Open returned made the box %x and its text %x", inside, again)
	}
	other, _ := seal.Seal(5, 6, bound, text)
	spoil(box)
	if again, _ := seal.Seal(5, 6, bound, text); !bytes.Equal(other, want) || !bytes.Equal(again, want) || !bytes.Equal(memory, ascending(60)) {
		t.Errorf("a change of what Seal returned made others %x and %x, want %x", other, again, want)
	}
}
