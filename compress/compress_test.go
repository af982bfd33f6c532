package compress_test

import (
	"fmt"
	"math"
	"slices"
	"strconv"
	"strings"
	"testing"

	"hopmesh/api"
	"hopmesh/compress"
)

// contexts returns a list of contexts.
func contexts(prefixes ...string) []api.Context {
	var l []api.Context
	for _, p := range prefixes {
		l = append(l, api.Context{Prefix: p})
	}
	return l
}

// header returns the header of the example.
func header() api.Header {
	return api.Header{Limit: 64, Source: "\x0a\x00\x01\x05", Target: "\x0a\x00\x01\x09", Port: 61616, Reply: 61617, Length: 20}
}

// with returns a header that is changed.
func with(h api.Header, change func(*api.Header)) api.Header {
	change(&h)
	return h
}

// good returns valid headers.
func good() map[string]api.Header {
	headers := map[string]api.Header{"the example": header(), "zeros": {Source: "\x00\x00\x00\x00", Target: "\x00\x00\x00\x00"}}
	for name, n := range map[string]int{"class 0": 0, "class 1": 1, "class 2": 2, "class 254": 254, "class 255": 255} {
		headers[name] = with(header(), func(h *api.Header) { h.Class = n })
	}
	for _, n := range []int{0, 1, 2, 3, 63, 64, 65, 254, 255} {
		headers[fmt.Sprint("limit ", n)] = with(header(), func(h *api.Header) { h.Limit = n })
	}
	for _, n := range []int{0, 1, 62, 63, 64, 65, 127, 128, 4094, 4095} {
		headers[fmt.Sprint("length ", n)] = with(header(), func(h *api.Header) { h.Length = n })
	}
	ports := []int{0, 1, 255, 256, 61438, 61439, 61440, 61441, 61615, 61616, 61617, 61630, 61631, 61632, 61694, 61695, 61696, 65534, 65535}
	for _, port := range ports {
		for _, reply := range ports {
			headers[fmt.Sprintf("ports %d and %d", port, reply)] = with(header(), func(h *api.Header) { h.Port, h.Reply = port, reply })
		}
	}
	for _, a := range []string{"\x0a\x00\x01\x05", "\x0a\x00\x02\x05", "\xff\xfe\xfd\xfc", "\xc3\xa9\xe2\x82", "\x80\x00\x00\x00", "abcd"} {
		headers["from "+a] = with(header(), func(h *api.Header) { h.Source = a })
		headers["to "+a] = with(header(), func(h *api.Header) { h.Target = a })
		headers["from and to "+a] = with(header(), func(h *api.Header) { h.Source, h.Target = a, a })
	}
	return headers
}

// bad returns headers that are not valid.
func bad() map[string]api.Header {
	headers := map[string]api.Header{"nothing": {}}
	for name, m := range map[string]struct {
		above int
		of    func(*api.Header) *int
	}{
		"class":  {256, func(h *api.Header) *int { return &h.Class }},
		"limit":  {256, func(h *api.Header) *int { return &h.Limit }},
		"port":   {65536, func(h *api.Header) *int { return &h.Port }},
		"reply":  {65536, func(h *api.Header) *int { return &h.Reply }},
		"length": {4096, func(h *api.Header) *int { return &h.Length }},
	} {
		for _, n := range []int{-1, m.above, math.MinInt, math.MaxInt} {
			headers[fmt.Sprint(name, " ", n)] = with(header(), func(h *api.Header) { *m.of(h) = n })
		}
	}
	for _, a := range []string{"", "a", "abc", "abcde", strings.Repeat("a", 1000)} {
		headers[fmt.Sprint("source of ", len(a))] = with(header(), func(h *api.Header) { h.Source = a })
		headers[fmt.Sprint("target of ", len(a))] = with(header(), func(h *api.Header) { h.Target = a })
	}
	return headers
}

// lists returns valid lists of contexts.
func lists() map[string][]api.Context {
	eight := contexts("\x0b", "\x0b\x01", "\x0a\x00\x01\x07", "\x0a\x01\x01", "\x0a", "\xff\xfe", "\x0b", "\x0a\x00\x01")
	return map[string][]api.Context{
		"none": nil, "an empty list": {}, "the example": contexts("\x0a\x00\x01"), "one byte": contexts("\x0a"), "two bytes": contexts("\x0a\x00"), "four bytes": contexts("\x0a\x00\x01\x05"), "bytes above 127": contexts("\xff", "\xc3\xa9\xe2"),
		"eight": eight, "eight turned round": turned(eight), "of all lengths": contexts("\x0a", "\x0a\x00", "\x0a\x00\x01", "\x0a\x00\x01\x05"), "equal ones": contexts("\x0a\x00\x01", "\x0a\x00\x01"), "four bytes each": contexts("\x0a\x00\x01\x05", "\x0a\x00\x01\x09", "abcd"), "another one": contexts("a"),
	}
}

// turned returns a list in the opposite order.
func turned(l []api.Context) []api.Context {
	l = slices.Clone(l)
	slices.Reverse(l)
	return l
}

// badLists returns lists of contexts that are not valid.
func badLists() map[string][]api.Context {
	return map[string][]api.Context{
		"nine": contexts("a", "b", "c", "d", "e", "f", "g", "h", "i"), "many": make([]api.Context, 1000), "an empty prefix": contexts(""), "five bytes": contexts("abcde"), "an empty prefix among others": contexts("a", "", "b"), "five bytes at last": contexts("a", "b", "abcde"), "a long prefix": contexts(strings.Repeat("a", 1000)), "five bytes that fit": contexts("\x0a", "\x0a\x00\x01\x05\x05"),
	}
}

// find returns the context of an address, looking for lengths one after the other.
func find(l []api.Context, address string) (int, bool) {
	for n := 4; n > 0; n-- {
		for i, c := range l {
			if c.Prefix == address[:n] {
				return i, true
			}
		}
	}
	return 0, false
}

// spell returns the bits of a header, as the chapter lists them.
func spell(l []api.Context, h api.Header) string {
	s := "0"
	if h.Class != 0 {
		s = fmt.Sprintf("1%08b", h.Class)
	}
	switch h.Limit {
	case 1:
		s += "01"
	case 64:
		s += "10"
	case 255:
		s += "11"
	default:
		s += fmt.Sprintf("00%08b", h.Limit)
	}
	for _, a := range []string{h.Source, h.Target} {
		if i, found := find(l, a); found {
			s += fmt.Sprintf("1%03b", i)
			a = a[len(l[i].Prefix):]
		} else {
			s += "0"
		}
		for _, b := range []byte(a) {
			s += fmt.Sprintf("%08b", b)
		}
	}
	s += spellPorts(h.Port, h.Reply)
	if h.Length > 63 {
		return s + fmt.Sprintf("1%012b", h.Length)
	}
	return s + fmt.Sprintf("0%06b", h.Length)
}

// spellPorts returns the bits of both ports.
func spellPorts(port, reply int) string {
	switch {
	case 61616 <= min(port, reply) && max(port, reply) <= 61631:
		return fmt.Sprintf("11%04b%04b", port-61616, reply-61616)
	case port == reply:
		return fmt.Sprintf("01%016b", port)
	case 61440 <= port && port <= 61695:
		return fmt.Sprintf("10%08b%016b", port-61440, reply)
	}
	return fmt.Sprintf("00%016b%016b", port, reply)
}

// pack returns the bytes of spelled bits.
func pack(spelled string) string {
	for len(spelled)%8 != 0 {
		spelled += "0"
	}
	var b []byte
	for ; spelled != ""; spelled = spelled[8:] {
		n, _ := strconv.ParseUint(spelled[:8], 2, 8)
		b = append(b, byte(n))
	}
	return string(b)
}

func TestTheExample(t *testing.T) {
	l, h := contexts("\x0a\x00\x01"), header()
	want := pack(strings.ReplaceAll("0 10 1 000 00000101 1 000 00001001 11 0000 0001 0 010100", " ", ""))
	if got, e := compress.Compress(l, h); got != want || e != api.OK || len(got) != 6 {
		t.Errorf("%x, error %d, want %x", got, e, want)
	}
	if n, e := compress.Bits(l, h); n != 44 || e != api.OK {
		t.Errorf("%d bits, error %d", n, e)
	}
	if got, rest, e := compress.Expand(l, want+"payload"); got != h || rest != "payload" || e != api.OK {
		t.Errorf("%v, %q, error %d", got, rest, e)
	}
}

func TestCheck(t *testing.T) {
	for name, h := range good() {
		if e := compress.Check(h); e != api.OK {
			t.Errorf("%s: error %d", name, e)
		}
	}
	for name, h := range bad() {
		if e := compress.Check(h); e != api.ErrArg {
			t.Errorf("%s: error %d", name, e)
		}
	}
}

// all fails if a header is not compressed as it is spelled, or not expanded, also in front of other bytes.
func all(t *testing.T, name string, l []api.Context, h api.Header) {
	t.Helper()
	before, spelled := slices.Clone(l), spell(l, h)
	want := pack(spelled)
	if got, e := compress.Compress(l, h); got != want || e != api.OK {
		t.Errorf("%s: %x, error %d, want %x", name, got, e, want)
	}
	if n, e := compress.Bits(l, h); n != len(spelled) || e != api.OK {
		t.Errorf("%s: %d bits, error %d", name, n, e)
	}
	for _, behind := range []string{"", "\x00", "\xff", "some bytes behind it"} {
		if got, rest, e := compress.Expand(l, want+behind); got != h || rest != behind || e != api.OK {
			t.Errorf("%s: %v, %q, error %d", name, got, rest, e)
		}
	}
	if !slices.Equal(l, before) {
		t.Errorf("%s: the contexts are modified: %v", name, l)
	}
}

func TestCompressAndExpand(t *testing.T) {
	for where, l := range lists() {
		for name, h := range good() {
			all(t, where+", "+name, l, h)
		}
	}
}

func TestCompressWithEachContext(t *testing.T) {
	for index := range 8 {
		for n := 1; n <= 4; n++ {
			for _, address := range []string{header().Source, header().Target, "\xff\xfe\xfd\xfc"} {
				l := contexts("s", "t", "u", "v", "w", "x", "y", "z")
				l[index].Prefix = address[:n]
				all(t, fmt.Sprintf("index %d, %d bytes, source", index, n), l, with(header(), func(h *api.Header) { h.Source = address }))
				all(t, fmt.Sprintf("index %d, %d bytes, target", index, n), l, with(header(), func(h *api.Header) { h.Target = address }))
			}
		}
	}
}

func TestErrorsOfCompress(t *testing.T) {
	fail := func(name string, l []api.Context, h api.Header) {
		if got, e := compress.Compress(l, h); got != "" || e != api.ErrArg {
			t.Errorf("%s: %x, error %d", name, got, e)
		}
		if n, e := compress.Bits(l, h); n != 0 || e != api.ErrArg {
			t.Errorf("%s: %d bits, error %d", name, n, e)
		}
	}
	for name, h := range bad() {
		for where, l := range lists() {
			fail(where+", "+name, l, h)
		}
		fail(name+" with five bytes", contexts("abcde"), h)
	}
	for name, l := range badLists() {
		fail(name, l, header())
	}
}

func TestErrorsOfExpand(t *testing.T) {
	whole, _ := compress.Compress(nil, header())
	for name, l := range badLists() {
		for _, data := range []string{"", whole, strings.Repeat("a", api.MaxData+1)} {
			if h, rest, e := compress.Expand(l, data); h != (api.Header{}) || rest != "" || e != api.ErrArg {
				t.Errorf("%s: %v, %q, error %d", name, h, rest, e)
			}
		}
	}
	most := strings.Repeat("a", api.MaxData-len(whole))
	if h, rest, e := compress.Expand(nil, whole+most); h != header() || rest != most || e != api.OK {
		t.Errorf("MaxData bytes: %v, %d bytes, error %d", h, len(rest), e)
	}
	for _, data := range []string{whole + most + "a", strings.Repeat("\xff", 2*api.MaxData)} {
		if h, rest, e := compress.Expand(nil, data); h != (api.Header{}) || rest != "" || e != api.ErrTooLarge {
			t.Errorf("%d bytes: %v, %d bytes, error %d", len(data), h, len(rest), e)
		}
	}
	if h, rest, e := compress.Expand(nil, strings.Repeat("\xff", api.MaxData)); h != (api.Header{}) || rest != "" || e != api.ErrCorrupt {
		t.Errorf("MaxData bytes 255: %v, %d bytes, error %d", h, len(rest), e)
	}
}

func TestExpandOfWhatIsCutShort(t *testing.T) {
	for where, l := range lists() {
		for name, h := range good() {
			data := pack(spell(l, h))
			for n := range len(data) {
				if got, rest, e := compress.Expand(l, data[:n]); got != (api.Header{}) || rest != "" || e != api.ErrCorrupt {
					t.Fatalf("%s, %s, cut behind %d bytes: %v, %q, error %d", where, name, n, got, rest, e)
				}
			}
		}
	}
}

func TestExpandOfWhatIsNoHeader(t *testing.T) {
	l := contexts("\x0a\x00\x01", "\x0a\x00", "\x0a\x00\x01", "\x0a\x00\x01\x09")
	source, target := "100000000101", "1011"
	whole := func(parts ...string) string { return strings.Join(parts, "") }
	right := whole("0", "10", source, target, "1100000001", "0010100")
	if right != spell(l, header()) {
		t.Fatalf("%s, want %s", right, spell(l, header()))
	}
	for name, spelled := range map[string]string{
		"class 0 in full": whole("100000000", "10", source, target, "1100000001", "0010100"),
		"limit 1 in full": whole("0", "0000000001", source, target, "1100000001", "0010100"), "limit 64 in full": whole("0", "0001000000", source, target, "1100000001", "0010100"), "limit 255 in full": whole("0", "0011111111", source, target, "1100000001", "0010100"),
		"no context of the source": whole("0", "10", "000001010000000000000000100000101", target, "1100000001", "0010100"), "no context of the target": whole("0", "10", source, "000001010000000000000000100001001", "1100000001", "0010100"),
		"a shorter context": whole("0", "10", "10010000000100000101", target, "1100000001", "0010100"), "a shorter context of the target": whole("0", "10", source, "100000001001", "1100000001", "0010100"), "an equal context with a greater index": whole("0", "10", "101000000101", target, "1100000001", "0010100"),
		"a context that is not there": whole("0", "10", "110000000101", target, "1100000001", "0010100"), "a context that is not there for the target": whole("0", "10", source, "111100000101", "1100000001", "0010100"), "contexts that are not there": whole("0", "10", "1111", "1111", "1100000001", "0010100"),
		"near ports in full": whole("0", "10", source, target, "0011110000101100001111000010110001", "0010100"), "near ports in a block": whole("0", "10", source, target, "10101100001111000010110001", "0010100"), "equal near ports": whole("0", "10", source, target, "011111000010110000", "0010100"),
		"equal ports in full": whole("0", "10", source, target, "0000000000000001010000000000000101", "0010100"), "equal ports in a block": whole("0", "10", source, target, "10000000001111000000000000", "0010100"), "a block in full": whole("0", "10", source, target, "0011110000000000000000000000000101", "0010100"),
		"length 63 in full": whole("0", "10", source, target, "1100000001", "1000000111111"), "length 0 in full": whole("0", "10", source, target, "1100000001", "1000000000000"),
		"filled up with a bit 1": right + "1", "filled up with a bit 1 at last": right + strings.Repeat("0", (15-len(right)%8)%8) + "1",
		"nothing": "", "a byte 0": "00000000", "bits 0": strings.Repeat("0", 136), "bits 1": strings.Repeat("1", 200),
	} {
		for _, behind := range []string{"", "\x00", "behind"} {
			if name == "nothing" || name == "a byte 0" {
				behind = ""
			}
			if h, rest, e := compress.Expand(l, pack(spelled)+behind); h != (api.Header{}) || rest != "" || e != api.ErrCorrupt {
				t.Errorf("%s: %v, %q, error %d", name, h, rest, e)
			}
		}
	}
}
