package frame_test

import (
	"fmt"
	"math/rand"
	"strconv"
	"strings"
	"testing"

	"hopmesh/api"
	"hopmesh/crc"
	"hopmesh/frame"
)

// spell returns the bits of a frame with any fields, as the chapter lists them.
func spell(f api.Frame) string {
	s := fmt.Sprintf("%03b%05b", f.Kind, f.Source)
	if f.Target == -1 {
		s += "0"
	} else {
		s += fmt.Sprintf("1%05b", f.Target)
	}
	s += fmt.Sprintf("%08b%08b", f.List, f.Sequence)
	switch f.Kind {
	case 1:
		s += fmt.Sprintf("%08b%016b", f.Flow, f.Number)
	case 2:
		return s + fmt.Sprintf("%016b", (f.Error+65536)%65536)
	case 3:
		s += fmt.Sprintf("%027b%016b%016b", f.Slot, f.Rank, f.Epoch)
	}
	return s + fmt.Sprintf("%07b", len(f.Data)) + spellBytes(f.Data)
}

// spellBytes returns the bits of bytes.
func spellBytes(data string) string {
	s := ""
	for _, b := range []byte(data) {
		s += fmt.Sprintf("%08b", b)
	}
	return s
}

// pack returns the bytes of spelled bits, without a check sum.
func pack(spelled string) string {
	for len(spelled)%8 != 0 {
		spelled += "0"
	}
	var b []byte
	for ; spelled != ""; spelled = spelled[8:] {
		n, _ := strconv.ParseUint(spelled[:8], 2, 8)
		b = append(b, byte(n))
	}
	return string(b)
}

// sent returns the bytes of spelled bits.
func sent(spelled string) string { return crc.Protect(pack(spelled)) }

func TestTheExamples(t *testing.T) {
	f := api.Frame{Kind: 2, Source: 2, Target: 1, List: 3, Sequence: 4, Error: -1}
	bits := "010 00010 1 00001 00000011 00000100 1111111111111111"
	want := sent(strings.ReplaceAll(bits, " ", ""))
	got, e := frame.Encode(f)
	if got != want || e != api.OK || len(got) != 8 {
		t.Errorf("%x, error %d, want %x", got, e, want)
	}
	if back, e := frame.Decode(want); back != f || e != api.OK {
		t.Errorf("%v, error %d", back, e)
	}
	if n, e := frame.Time(f); n != 832 || e != api.OK {
		t.Errorf("time %d, error %d", n, e)
	}
	empty := api.Frame{Kind: 1, Source: 2, Target: 1}
	if got, e := frame.Encode(empty); len(got) != 10 || e != api.OK {
		t.Errorf("%d bytes, error %d", len(got), e)
	}
	if n, e := frame.Room(empty); n != 117 || e != api.OK {
		t.Errorf("room %d, error %d", n, e)
	}
}

// both fails if a frame is not encoded as it is spelled, or not decoded.
func both(t *testing.T, name string, f api.Frame) {
	t.Helper()
	want := sent(spell(f))
	if got, e := frame.Encode(f); got != want || e != api.OK {
		t.Errorf("%s: %x, error %d, want %x", name, got, e, want)
	}
	if back, e := frame.Decode(want); back != f || e != api.OK {
		t.Errorf("%s: %v, error %d", name, back, e)
	}
}

func TestEncodeAndDecode(t *testing.T) {
	for name, f := range good() {
		both(t, name, f)
	}
	for kind, f := range kinds() {
		if kind == "ack" {
			continue
		}
		for n := range room(f) + 1 {
			both(t, fmt.Sprintf("%s with %d bytes", kind, n), of(f, n))
		}
	}
}

func TestErrorsOfEncode(t *testing.T) {
	for name, f := range bad() {
		if got, e := frame.Encode(f); got != "" || e != api.ErrArg {
			t.Errorf("%s: %x, error %d", name, got, e)
		}
	}
	for name, f := range long() {
		if got, e := frame.Encode(f); got != "" || e != api.ErrTooLarge {
			t.Errorf("%s: %x, error %d", name, got, e)
		}
	}
}

func TestDecodeOfEachLength(t *testing.T) {
	for n := range 3000 {
		want := api.ErrCorrupt
		switch {
		case n < 2:
			want = api.ErrShort
		case n > 127:
			want = api.ErrTooLarge
		}
		// strings of bytes 0 are protected, but no frames; those of bytes 255 are not
		for _, b := range []string{"\x00", "\xff"} {
			if f, e := frame.Decode(strings.Repeat(b, n)); f != (api.Frame{}) || e != want {
				t.Errorf("%d bytes %x: %v, error %d", n, b, f, e)
			}
		}
		if n >= 126 && n < 200 {
			protected := crc.Protect(strings.Repeat("x", n-2))
			if f, e := frame.Decode(protected); f != (api.Frame{}) || e != want {
				t.Errorf("%d protected bytes: %v, error %d", n, f, e)
			}
		}
	}
}

func TestDecodeOfWhatIsNoFrame(t *testing.T) {
	text := func(n int, s string) string { return fmt.Sprintf("%07b", n) + spellBytes(s) }
	d, a, b, m, c := spell(data()), spell(ack()), spell(beacon()), spell(message()), spell(call())
	head := d[:54]
	for name, spelled := range map[string]string{
		"nothing": "", "kind 0": "000" + m[3:], "kind 5": "101" + m[3:], "kind 7": "111" + m[3:], "kind 0 without target": "000" + c[3:], "kind 0 and nothing else": "000", "kind 0 and all it could have": "00000010100001" + strings.Repeat("0", 16), "kind 5 and all it could have": "10100010" + "0" + strings.Repeat("0", 16),
		"a target that is the source": m[:9] + "00010" + m[14:], "data to itself": d[:9] + "00010" + d[14:], "an acknowledgement of itself": a[:9] + "00010" + a[14:],
		"a beacon with a target": b[:8] + "100001" + b[9:], "data without a target": d[:8] + "0" + d[14:], "an acknowledgement without a target": a[:8] + "0" + a[14:],
		"a slot too great": b[:25] + fmt.Sprintf("%027b", lastSlot+1) + b[52:], "the greatest slot of the field": b[:25] + strings.Repeat("1", 27) + b[52:],
		"a text cut short": head + text(5, "data"), "a text of 127 bytes, cut short": head + text(127, "data"), "no length of a text": head, "a part of a length": head[:len(head)-4], "a text that is shorter than what follows": head + text(3, "data"), "no text, but bytes": head + text(0, "data"),
		"only a kind": "001", "only a source": "00100010", "cut in an error": a[:40],
		"further bytes of data": d + strings.Repeat("0", 8), "further bytes of an acknowledgement": a + strings.Repeat("0", 8), "further bytes of a beacon": b + strings.Repeat("0", 8), "further bytes of a message": m + strings.Repeat("0", 8), "further bytes that are not 0": m + "00000000001",
	} {
		if f, e := frame.Decode(sent(spelled)); f != (api.Frame{}) || e != api.ErrCorrupt {
			t.Errorf("%s: %v, error %d", name, f, e)
		}
	}
	for kind, f := range kinds() {
		spelled := spell(f)
		for n := range len(spelled)/8 - 1 {
			if f, e := frame.Decode(sent(spelled[:8*n])); f != (api.Frame{}) || e != api.ErrCorrupt {
				t.Errorf("%s, cut behind %d bytes: %v, error %d", kind, n, f, e)
			}
		}
		for n := len(spelled); n%8 != 0; n++ {
			filled := spelled + strings.Repeat("0", n-len(spelled)) + "1"
			if f, e := frame.Decode(sent(filled)); f != (api.Frame{}) || e != api.ErrCorrupt {
				t.Errorf("%s, filled up with a bit 1: %v, error %d", kind, f, e)
			}
		}
	}
}

// random returns a random frame that can be sent.
func random(r *rand.Rand) api.Frame {
	f := api.Frame{Kind: 1 + r.Intn(4), Source: r.Intn(32), List: r.Intn(256), Sequence: r.Intn(256)}
	f.Target = (f.Source + 1 + r.Intn(31)) % 32
	switch {
	case f.Kind == 1:
		f.Flow, f.Number = r.Intn(256), r.Intn(65536)
	case f.Kind == 2:
		f.Error = r.Intn(65536) - 32768
		return f
	case f.Kind == 3:
		f.Target, f.Slot, f.Rank, f.Epoch = -1, r.Intn(lastSlot+1), r.Intn(65536), r.Intn(65536)
	case r.Intn(2) == 0:
		f.Target = -1
	}
	b := make([]byte, r.Intn(room(f)+1))
	r.Read(b)
	f.Data = string(b)
	return f
}

// flip returns a string with one bit changed.
func flip(s string, bit int) string {
	b := []byte(s)
	b[bit/8] ^= 0x80 >> (bit % 8)
	return string(b)
}

func TestConsequencesForRandomFrames(t *testing.T) {
	r := rand.New(rand.NewSource(13))
	for i := range 400 {
		f := random(r)
		both(t, fmt.Sprint(f), f)
		data := sent(spell(f))
		n, e := frame.Time(f)
		if e != api.OK || n <= 0 || api.TxOffset+n+api.AckDelay+api.ByteTime*(api.AckSize+api.FrameExtra) > api.SlotTime {
			t.Errorf("%v: time %d, error %d", f, n, e)
		}
		for bit := range 8 * len(data) {
			wrong := flip(data, bit)
			if got, e := frame.Decode(wrong); got != (api.Frame{}) || e != api.ErrCorrupt {
				t.Fatalf("%v, bit %d wrong: %v, error %d", f, bit, got, e)
			}
			if i >= 10 {
				continue
			}
			for other := range bit {
				if got, e := frame.Decode(flip(wrong, other)); got != (api.Frame{}) || e != api.ErrCorrupt {
					t.Fatalf("%v, bits %d and %d wrong: %v, error %d", f, bit, other, got, e)
				}
			}
		}
	}
}

// What is accepted is what Encode returns: random bits behind each kind, with a right check sum.
func TestWhatIsDecodedIsEncoded(t *testing.T) {
	r := rand.New(rand.NewSource(14))
	accepted := map[int]int{}
	for range 40000 {
		b := []byte(pack(spell(random(r))))
		for range r.Intn(3) {
			b[r.Intn(len(b))] ^= 1 << r.Intn(8)
		}
		if r.Intn(4) == 0 {
			b = b[:r.Intn(len(b)+1)]
		}
		data := crc.Protect(string(b))
		f, e := frame.Decode(data)
		if e != api.OK {
			if e != api.ErrCorrupt || f != (api.Frame{}) {
				t.Fatalf("%x: %v, error %d", data, f, e)
			}
			continue
		}
		accepted[f.Kind]++
		if again, e := frame.Encode(f); again != data || e != api.OK || frame.Check(f) != api.OK {
			t.Fatalf("%x: %v, which is %x, error %d", data, f, again, e)
		}
	}
	for kind := 1; kind <= 4; kind++ {
		if accepted[kind] < 1000 {
			t.Errorf("only %d frames of kind %d", accepted[kind], kind)
		}
	}
}
