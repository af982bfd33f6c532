package fragment_test

import (
	"fmt"
	"math/rand"
	"strings"
	"testing"

	"hopmesh/api"
	"hopmesh/fragment"
)

// spell returns the bytes of a fragment, from its bits as text.
func spell(f api.Fragment) string {
	bits := fmt.Sprintf("%08b%05b%05b%012b00", f.Tag, f.Index, f.Count-1, f.Size)
	var b []byte
	for ; bits != ""; bits = bits[8:] {
		var n byte
		fmt.Sscanf(bits[:8], "%b", &n)
		b = append(b, n)
	}
	return string(b) + f.Data
}

// numbers returns the fragment whose bytes are given as bits, and the bits that fill up.
func numbers(data string) (api.Fragment, string) {
	bits := ""
	for _, b := range []byte(data[:4]) {
		bits += fmt.Sprintf("%08b", b)
	}
	f := api.Fragment{Data: data[4:]}
	at := 0
	for _, field := range []struct {
		n     *int
		width int
	}{{&f.Tag, 8}, {&f.Index, 5}, {&f.Count, 5}, {&f.Size, 12}} {
		fmt.Sscanf(bits[at:at+field.width], "%b", field.n)
		at += field.width
	}
	f.Count++
	return f, bits[at:]
}

func TestTheBytesOfTheExample(t *testing.T) {
	for i, want := range []string{"\x07\x00\x80\x14ab", "\x07\x08\x80\x14cd", "\x07\x10\x80\x14e"} {
		f := example()[i]
		if data, e := fragment.Encode(f); data != want || e != api.OK {
			t.Errorf("%v: %x, error %d", f, data, e)
		}
		if got, e := fragment.Decode(want); got != f || e != api.OK {
			t.Errorf("%x: %v, error %d", want, got, e)
		}
	}
}

func TestWhatIsEncodedIsDecoded(t *testing.T) {
	for size := 1; size <= 4095; size += 1 + size/40 {
		for most := 1; most <= 120; most++ {
			if size > 32*most {
				continue
			}
			for _, f := range split(t, (size*7+most)%256, text(size), most) {
				data, e := fragment.Encode(f)
				if data != spell(f) || e != api.OK {
					t.Fatalf("%v: %x, error %d, want %x", f, data, e, spell(f))
				}
				if got, e := fragment.Decode(data); got != f || e != api.OK {
					t.Fatalf("%x: %v, error %d, want %v", data, got, e, f)
				}
			}
		}
	}
}

// refused fails if a string can be decoded.
func refused(t *testing.T, data string, want api.Errno) {
	t.Helper()
	if f, e := fragment.Decode(data); f != (api.Fragment{}) || e != want {
		t.Errorf("%x: %v, error %d, want %d", data, f, e, want)
	}
}

func TestDecodeErrors(t *testing.T) {
	for _, data := range []string{"", "a", "ab", "abc", "\x07\x10\x80", "\x00\x00\x00", "\xff\xff\xff"} {
		refused(t, data, api.ErrShort)
	}
	for _, data := range []string{
		"\x00\x00\x00\x00", "abcd", "\xff\xff\xff\xff", "\x07\x10\x80\x14", "\x07\x00\x80\x14", "\x07\x00\x00\x04",
		"\x07\x10\x80\x14ef", "\x07\x10\x80\x14efg", "\x07\x00\x80\x14a", "\x07\x00\x80\x14abc", "\x07\x18\x80\x14e", "\x07\xf8\x80\x14e",
		"\x07\x10\x80\x18e", "\x07\x10\x80\x00e", "\x07\x10\x00\x14e", "\x07\x00\x00\x00a",
		spell(api.Fragment{Count: 1, Size: 121, Data: text(121)}), spell(api.Fragment{Count: 2, Size: 240, Data: text(121)}),
		spell(api.Fragment{Count: 1, Size: 120, Data: text(120)}) + "x", strings.Repeat("\x00", api.MaxData+1), strings.Repeat("a", 200000),
	} {
		refused(t, data, api.ErrCorrupt)
	}
}

func TestBitsThatFillUpAreZero(t *testing.T) {
	for _, f := range append(example(), divide(255, text(3840), 120)...) {
		for fill := 1; fill < 4; fill++ {
			b := []byte(spell(f))
			b[3] |= byte(fill)
			refused(t, string(b), api.ErrCorrupt)
		}
	}
}

// Bytes of numbers that make no valid fragment are refused: those of what is invalid, if the numbers fit into their fields.
func TestDecodeOfWhatIsNotValid(t *testing.T) {
	tried := 0
	for _, f := range invalid() {
		if f.Tag>>8 == 0 && f.Index>>5 == 0 && (f.Count-1)>>5 == 0 && f.Size>>12 == 0 {
			refused(t, spell(f), api.ErrCorrupt)
			tried++
		}
	}
	if tried < 30 {
		t.Errorf("only %d", tried)
	}
}

// Of all strings just those are accepted that are the bytes of a valid fragment.
func TestDecodeOfRandomBytes(t *testing.T) {
	r := rand.New(rand.NewSource(5))
	accepted, corrupt := 0, 0
	for range 100000 {
		most := 1 + r.Intn(120)
		l := divide(r.Intn(256), text(1+r.Intn(32*most)), most)
		b := []byte(spell(l[r.Intn(len(l))]))
		for range r.Intn(3) {
			b[r.Intn(4)] ^= 1 << r.Intn(8)
		}
		if r.Intn(4) == 0 {
			b = b[:4+r.Intn(len(b)-3)]
		}
		data := string(b)
		want, fill := numbers(data)
		if fill != "00" || fragment.Check(want) != api.OK {
			corrupt++
			refused(t, data, api.ErrCorrupt)
			continue
		}
		accepted++
		if f, e := fragment.Decode(data); f != want || e != api.OK {
			t.Fatalf("%x: %v, error %d", data, f, e)
		}
		if again, e := fragment.Encode(want); again != data || e != api.OK {
			t.Fatalf("%v: %x, error %d, want %x", want, again, e, data)
		}
	}
	if accepted < 10000 || corrupt < 10000 {
		t.Errorf("%d strings are accepted, %d not", accepted, corrupt)
	}
}
