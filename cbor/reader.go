package cbor

import (
	"passkey/api"
)

// reader reads the items of one data item from input.
type reader struct {
	nesting
	input []byte
	at    int
}

// item reads the next item.
func (r *reader) item() (api.Item, api.Errno) {
	kind, n, e := r.head()
	if e != api.OK {
		return api.Item{}, e
	}
	if e := r.checkPlace(kind); e != api.OK {
		return api.Item{}, e
	}
	if tooLarge(kind, n) {
		return api.Item{}, api.ErrTooLarge
	}
	it := api.Item{Kind: kind, Number: n}
	if hasData(kind) {
		data, ok := r.take(n)
		if !ok {
			return api.Item{}, api.ErrTruncated
		}
		it = api.Item{Kind: kind, Data: string(data)}
	}
	if e := r.checkContent(it); e != api.OK {
		return api.Item{}, e
	}
	return it, api.OK
}

// head reads the head of an item: its kind and its argument.
func (r *reader) head() (kind int, n uint64, e api.Errno) {
	b, ok := r.take(1)
	if !ok {
		return 0, 0, api.ErrTruncated
	}
	first := b[0]
	switch first {
	case byteFalse:
		return api.ItemBool, 0, api.OK
	case byteTrue:
		return api.ItemBool, 1, api.OK
	case byteNull:
		return api.ItemNull, 0, api.OK
	}
	kind, low := api.ItemUint+int(first>>lowBits), first&lowMask
	if kind > api.ItemMap || low > wideArgument+3 {
		return 0, 0, api.ErrSyntax
	}
	if low < wideArgument {
		return kind, uint64(low), api.OK
	}
	n, e = r.wide(1 << (low - wideArgument))
	if e != api.OK {
		return 0, 0, e
	}
	return kind, n, api.OK
}

// wide reads an argument of size bytes that follows a first byte.
func (r *reader) wide(size int) (n uint64, e api.Errno) {
	b, ok := r.take(uint64(size))
	if !ok {
		return 0, api.ErrTruncated
	}
	for _, x := range b {
		n = n<<8 | uint64(x)
	}
	if argumentSize(n) != size {
		return 0, api.ErrSyntax
	}
	return n, api.OK
}

// take reads n bytes if there are so many.
func (r *reader) take(n uint64) (b []byte, ok bool) {
	if n > uint64(len(r.input)-r.at) {
		return nil, false
	}
	b = r.input[r.at : r.at+int(n)]
	r.at += int(n)
	return b, true
}
