package bitio_test

import (
	"fmt"
	"math/rand"
	"strings"
	"testing"

	"hopmesh/api"
	"hopmesh/bitio"
)

// A field is written, read, and spelled as the bits that the chapter gives it.
type field struct {
	kind, width, n int
	text           string
}

const (
	unsigned = iota
	signed
	flag
	text
	kinds
)

// randomField returns a field of a random kind.
func randomField(r *rand.Rand) field {
	f := field{kind: r.Intn(kinds)}
	switch f.kind {
	case unsigned:
		f.width = 1 + r.Intn(63)
		f.n = r.Int() >> (63 - f.width)
	case signed:
		f.width = 2 + r.Intn(62)
		f.n = int(r.Uint64()) >> (64 - f.width)
	case flag:
		f.n = r.Intn(2)
	case text:
		f.width = 1 + r.Intn(20)
		b := make([]byte, r.Intn(f.width+1))
		r.Read(b)
		f.text = string(b)
	}
	return f
}

// spell returns the bits of a field.
func (f field) spell() string {
	switch f.kind {
	case unsigned:
		return fmt.Sprintf("%0*b", f.width, f.n)
	case signed:
		return fmt.Sprintf("%0*b", f.width, uint64(f.n)%(1<<f.width))
	case flag:
		return fmt.Sprint(f.n)
	}
	s := fmt.Sprintf("%0*b", bitio.Width(f.width), len(f.text))
	for _, b := range []byte(f.text) {
		s += fmt.Sprintf("%08b", b)
	}
	return s
}

// write writes a field.
func (f field) write(w *bitio.Writer) {
	switch f.kind {
	case unsigned:
		w.Unsigned(f.width, f.n)
	case signed:
		w.Signed(f.width, f.n)
	case flag:
		w.Flag(f.n == 1)
	case text:
		w.Text(f.width, f.text)
	}
}

// read reads a field of the kind and the width of f.
func (f field) read(r *bitio.Reader) field {
	got := field{kind: f.kind, width: f.width}
	switch f.kind {
	case unsigned:
		got.n = r.Unsigned(f.width)
	case signed:
		got.n = r.Signed(f.width)
	case flag:
		if r.Flag() {
			got.n = 1
		}
	case text:
		got.text = r.Text(f.width)
	}
	return got
}

// pack returns the bytes of the bits that are spelled, filled up with bits 0.
func pack(spelled string) string {
	spelled += strings.Repeat("0", (8-len(spelled)%8)%8)
	var b []byte
	for i := 0; i < len(spelled); i += 8 {
		n := 0
		fmt.Sscanf(spelled[i:i+8], "%b", &n)
		b = append(b, byte(n))
	}
	return string(b)
}

func TestWhatIsWrittenIsRead(t *testing.T) {
	random := rand.New(rand.NewSource(2))
	for range 500 {
		fields := make([]field, random.Intn(12))
		w, spelled := bitio.NewWriter(), ""
		for i := range fields {
			fields[i] = randomField(random)
			fields[i].write(w)
			spelled += fields[i].spell()
		}
		data, e := w.Bytes()
		if e != api.OK || w.Bits() != len(spelled) || data != pack(spelled) {
			t.Fatalf("%v: %x, error %d, %d bits; want %x", fields, data, e, w.Bits(), pack(spelled))
		}
		r := bitio.NewReader(data)
		for i, f := range fields {
			if got := f.read(r); got != f {
				t.Fatalf("field %d of %v is read as %v", i, fields, got)
			}
		}
		if r.Close() != api.OK || r.Left() != len(data)*8-len(spelled) {
			t.Fatalf("%v: Close is %d, %d bits left", fields, r.Close(), r.Left())
		}
	}
}

// damage returns data with one bit changed.
func damage(r *rand.Rand, data string) string {
	b := []byte(data)
	if len(b) > 0 {
		b[r.Intn(len(b))] ^= 1 << r.Intn(8)
	}
	return string(b)
}

func TestWhatIsReadWholeIsWritten(t *testing.T) {
	random := rand.New(rand.NewSource(3))
	whole, corrupt := 0, 0
	for range 2000 {
		fields, w := make([]field, 1+random.Intn(5)), bitio.NewWriter()
		for i := range fields {
			fields[i] = randomField(random)
			fields[i].write(w)
		}
		data, _ := w.Bytes()
		data = damage(random, data)
		r, again := bitio.NewReader(data), bitio.NewWriter()
		for _, f := range fields {
			f.read(r).write(again)
		}
		if r.Close() != api.OK {
			corrupt++
			continue
		}
		whole++
		if back, e := again.Bytes(); back != data || e != api.OK {
			t.Fatalf("%x is written as %x, error %d", data, back, e)
		}
	}
	if whole < 100 || corrupt < 100 {
		t.Errorf("only %d strings were read whole, and %d not", whole, corrupt)
	}
}
