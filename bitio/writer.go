package bitio

import "hopmesh/api"

// Writer writes fields one behind the other.
type Writer struct {
	bytes []byte
	bits  int
	err   api.Errno
}

// NewWriter returns a writer that has written nothing.
func NewWriter() *Writer { return &Writer{} }

// Unsigned writes an unsigned field.
func (w *Writer) Unsigned(width, n int) {
	w.field(checkUnsigned(width, n), width, func() { eachBit(width, n, w.push) })
}

// Signed writes a signed field: its bits are the lowest ones of n, as negative numbers have them.
func (w *Writer) Signed(width, n int) {
	w.field(checkSigned(width, n), width, func() { eachBit(width, n, w.push) })
}

// Flag writes one bit.
func (w *Writer) Flag(set bool) {
	w.field(api.OK, 1, func() { w.push(set) })
}

// Text writes a text with a limit.
func (w *Writer) Text(most int, s string) {
	width := Width(most)
	w.field(checkText(most, s), width+byteBits*len(s), func() {
		eachBit(width, len(s), w.push)
		for i := range len(s) {
			eachBit(byteBits, int(s[i]), w.push)
		}
	})
}

// Bits returns how many bits were written.
func (w *Writer) Bits() int { return w.bits }

// Bytes returns the bytes of what was written, or the first error.
func (w *Writer) Bytes() (string, api.Errno) {
	if w.err != api.OK {
		return "", w.err
	}
	return string(w.bytes), api.OK
}

// field lets write add a field of size bits, unless something is wrong with it (err), or there is no room for all of it.
func (w *Writer) field(err api.Errno, size int, write func()) {
	if w.err != api.OK {
		return
	}
	if err == api.OK && size > mostBits-w.bits {
		err = api.ErrTooLarge
	}
	if err != api.OK {
		w.bytes, w.err = nil, err
		return
	}
	write()
}

// push writes one bit.
func (w *Writer) push(set bool) {
	place := w.bits % byteBits
	if place == 0 {
		w.bytes = append(w.bytes, 0)
	}
	if set {
		w.bytes[len(w.bytes)-1] |= 0x80 >> place
	}
	w.bits++
}

// eachBit visits the lowest width bits of n, the highest one of them first.
func eachBit(width, n int, visit func(set bool)) {
	for i := range width {
		visit(n>>(width-1-i)&1 == 1)
	}
}

// checkUnsigned says what is wrong with an unsigned field: a negative number stays negative when it is shifted.
func checkUnsigned(width, n int) api.Errno {
	if !isUnsigned(width) {
		return api.ErrArg
	}
	if n>>width != 0 {
		return api.ErrRange
	}
	return api.OK
}

// checkSigned says what is wrong with a signed field: all bits from its highest one on have to be equal.
func checkSigned(width, n int) api.Errno {
	if !isSigned(width) {
		return api.ErrArg
	}
	if high := n >> (width - 1); high != 0 && high != -1 {
		return api.ErrRange
	}
	return api.OK
}

// checkText says what is wrong with a text.
func checkText(most int, s string) api.Errno {
	if !isText(most) {
		return api.ErrArg
	}
	if len(s) > most {
		return api.ErrTooLarge
	}
	return api.OK
}
