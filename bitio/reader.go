package bitio

import "hopmesh/api"

// Reader reads fields one behind the other.
type Reader struct {
	data string
	read int // bits
	err  api.Errno
}

// NewReader returns a reader of the bits of a string of at most MaxData bytes.
func NewReader(data string) *Reader {
	r := &Reader{}
	if len(data) > api.MaxData {
		r.fail(api.ErrTooLarge)
		return r
	}
	r.data = data
	return r
}

// Unsigned reads an unsigned field.
func (r *Reader) Unsigned(width int) int {
	if !r.begin(isUnsigned(width), width) {
		return 0
	}
	return collect(width, r.next)
}

// Signed reads a signed field, whose highest bit takes 2^width away.
func (r *Reader) Signed(width int) int {
	if !r.begin(isSigned(width), width) {
		return 0
	}
	n := collect(width, r.next)
	return n - n>>(width-1)<<width
}

// Flag reads one bit.
func (r *Reader) Flag() bool {
	return r.begin(true, 1) && r.next()
}

// Text reads a text with a limit.
func (r *Reader) Text(most int) string {
	width := Width(most)
	if !r.begin(isText(most), width) {
		return ""
	}
	size := collect(width, r.next)
	if size > most {
		r.fail(api.ErrRange)
		return ""
	}
	if !r.begin(true, byteBits*size) {
		return ""
	}
	text := make([]byte, size)
	for i := range text {
		text[i] = byte(collect(byteBits, r.next))
	}
	return string(text)
}

// Left returns how many bits were not read.
func (r *Reader) Left() int { return byteBits*len(r.data) - r.read }

// Err returns the first error.
func (r *Reader) Err() api.Errno { return r.err }

// Close returns the first error, or ErrCorrupt if more is left than the bits 0 that fill up the last byte.
func (r *Reader) Close() api.Errno {
	if r.err != api.OK {
		return r.err
	}
	if r.Left() >= byteBits {
		return api.ErrCorrupt
	}
	rest := *r
	if collect(rest.Left(), rest.next) != 0 {
		return api.ErrCorrupt
	}
	return api.OK
}

// begin says whether a field of size bits can be read, and keeps the error if it cannot.
func (r *Reader) begin(valid bool, size int) bool {
	switch {
	case r.err != api.OK:
		return false
	case !valid:
		r.fail(api.ErrArg)
		return false
	case size > r.Left():
		r.fail(api.ErrShort)
		return false
	}
	return true
}

// fail keeps the error of a reader that has none yet, and leaves nothing to be read.
func (r *Reader) fail(err api.Errno) {
	r.data, r.read, r.err = "", 0, err
}

// next reads one bit.
func (r *Reader) next() bool {
	set := r.data[r.read/byteBits]&(0x80>>(r.read%byteBits)) != 0
	r.read++
	return set
}

// collect returns the number with width bits, of which next gives the highest one first.
func collect(width int, next func() bool) int {
	n := 0
	for range width {
		n <<= 1
		if next() {
			n |= 1
		}
	}
	return n
}
