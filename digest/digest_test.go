package digest_test

import (
	"math/bits"
	"math/rand"
	"strings"
	"testing"

	"hopmesh/api"
	"hopmesh/digest"
)

// pattern returns n bytes, the i-th of which is i modulo 251.
func pattern(n int) string {
	b := make([]byte, n)
	for i := range b {
		b[i] = byte(i % 251)
	}
	return string(b)
}

// countdown returns a key of n bytes: 255, 254, and so on.
func countdown(n int) string {
	b := make([]byte, n)
	for i := range b {
		b[i] = byte(255 - i)
	}
	return string(b)
}

// hex returns the text of a digest, which has to have the right length.
func hex(t *testing.T, sum string) string {
	t.Helper()
	text, e := digest.Hex(sum)
	if e != api.OK {
		t.Errorf("Hex(%q): error %d", sum, e)
	}
	return text
}

func TestMix(t *testing.T) {
	const top = 1<<32 - 1
	for _, c := range []struct {
		v    [4]uint32
		x, y uint32
		want [4]uint32
	}{
		{[4]uint32{}, 0, 0, [4]uint32{}},
		{[4]uint32{1}, 0, 0, [4]uint32{17, 539099650, 285278464, 285212928}},
		{[4]uint32{0x52e6b438, 0xf2a74de4, 0x269e0d37, 0x6513270e}, 0xa6a3a450, 0xc5c7fd0, [4]uint32{0xb463d0b9, 0x9ff1c07b, 0x433597b2, 0x9b350159}},
		{[4]uint32{0x128b2f33, 0xd23f0824, 0x892f902b, 0x1818e811}, 0x5d9dc9f8, 0x9531985d, [4]uint32{0x393a4da, 0x6e6d0567, 0x1d78b899, 0xaaeacdfe}},
		{[4]uint32{0xed90475, 0xe8e25d94, 0x81e74ef5, 0x36f675cc}, 0x99950d8, 0x1600a35a, [4]uint32{0xc78f75a8, 0x69c65e6f, 0x531528d9, 0xa00a242}},
		{[4]uint32{top, top, top, top}, top, top, [4]uint32{0xfffdc, 0x3db81be4, 0xdc020dfe, 0xdc000dff}},
	} {
		if got := digest.Mix(c.v, c.x, c.y); got != c.want {
			t.Errorf("Mix(%x, %x, %x) = %x, want %x", c.v, c.x, c.y, got, c.want)
		}
	}
}

// unmix undoes the mixing of v with x and y.
func unmix(v [4]uint32, x, y uint32) [4]uint32 {
	a, b, c, d := v[0], v[1], v[2], v[3]
	b = bits.RotateLeft32(b, 7) ^ c
	c -= d
	d = bits.RotateLeft32(d, 8) ^ a
	a -= b + y
	b = bits.RotateLeft32(b, 12) ^ c
	c -= d
	d = bits.RotateLeft32(d, 16) ^ a
	a -= b + x
	return [4]uint32{a, b, c, d}
}

func TestMixCanBeUndone(t *testing.T) {
	r := rand.New(rand.NewSource(1))
	for range 1000 {
		v := [4]uint32{r.Uint32(), r.Uint32(), r.Uint32(), r.Uint32()}
		x, y := r.Uint32(), r.Uint32()
		if got := unmix(digest.Mix(v, x, y), x, y); got != v {
			t.Fatalf("%x with %x and %x comes back as %x", v, x, y, got)
		}
	}
}

func TestCompress(t *testing.T) {
	var h [8]uint32
	var m [16]uint32
	for i := range h {
		h[i] = uint32(i) * 0x11111111
	}
	for i := range m {
		m[i] = uint32(i+1) * 0x01234567
	}
	for _, c := range []struct {
		t    uint64
		last bool
		want [8]uint32
	}{
		{0, false, [8]uint32{0xa551af07, 0x1998fec2, 0x3d5bc628, 0x8beca7f1, 0xef1e1ab1, 0x3c2ea9bb, 0x56a176a6, 0xda33770b}},
		{64, false, [8]uint32{0x312c22be, 0x5c012d60, 0x34095f3d, 0x64edb476, 0x7660c83, 0xf3e8beab, 0x8bb78801, 0xe229543d}},
		{64, true, [8]uint32{0xea2c189d, 0x56b7ea88, 0x60f4b6d9, 0x94537cad, 0xaf15a268, 0xde600620, 0x30a15052, 0x4b36b36b}},
		{1<<32 + 5, false, [8]uint32{0x97042f74, 0x8d02945a, 0x3097cbc4, 0xbd3c0bfb, 0x6de8150, 0xa21d8129, 0x329136ce, 0x5b679582}},
		{1<<64 - 1, true, [8]uint32{0x2922efc2, 0x90221bca, 0x54719cf8, 0x95fda408, 0xdc7e8066, 0xbcc5e965, 0xfaa6c9b6, 0x1e672337}},
	} {
		if got := digest.Compress(h, m, c.t, c.last); got != c.want {
			t.Errorf("count %d, last %t: %x, want %x", c.t, c.last, got, c.want)
		}
	}
}

func TestSum(t *testing.T) {
	for _, c := range []struct{ data, want string }{
		{"", "69217a3079908094e11121d042354a7c1f55b6482ca1a51e1b250dfd1ed0eef9"},
		{"abc", "508c5e8c327c14e2e1a72ba34eeb452f37458b209ed63a294d999b4c86675982"},
		{pattern(1), "e34d74dbaf4ff4c6abd871cc220451d2ea2648846c7757fbaac82fe51ad64bea"},
		{pattern(55), "f4495470f226c8c214be08fdfad4bc4a2a9dbea9136a210df0d4b64929e6fc14"},
		{pattern(63), "e57cb79487dd57902432b250733813bd96a84efce59f650fac26e6696aefafc3"},
		{pattern(64), "56f34e8b96557e90c1f24b52d0c89d51086acf1b00f634cf1dde9233b8eaaa3e"},
		{pattern(65), "1b53ee94aaf34e4b159d48de352c7f0661d0a40edff95a0b1639b4090e974472"},
		{pattern(127), "f18417b39d617ab1c18fdf91ebd0fc6d5516bb34cf39364037bce81fa04cecb1"},
		{pattern(128), "1fa877de67259d19863a2a34bcc6962a2b25fcbf5cbecd7ede8f1fa36688a796"},
		{pattern(129), "5bd169e67c82c2c2e98ef7008bdf261f2ddf30b1c00f9e7f275bb3e8a28dc9a2"},
		{pattern(256), "6b58271b163ae846666204a78e4dc65ab390d510ab1091422cca43577252b016"},
		{pattern(1000), "1c067a5e746fb0f6734efac9a8cdb0e11061f0077f255184365c690115392501"},
	} {
		if got := hex(t, digest.Sum(c.data)); got != c.want {
			t.Errorf("%d bytes: %s, want %s", len(c.data), got, c.want)
		}
	}
}

func TestKeyed(t *testing.T) {
	for _, c := range []struct {
		key, data int
		want      string
	}{
		{1, 0, "93915f976c076e88f430c51cc4bc762a858478ab202e57c22e7783f9e3bd8445"},
		{1, 1, "0d3377db9f771191f50dfbe1eee30d80f67ea3308ce6c63d5c743cbb215a9a33"},
		{1, 64, "1b3fe4311101b708dc1a5b17ae7f6bef782afaed688331ec79ce7016c0658b16"},
		{16, 63, "1c4616645c2a4933311ae72c6810b351f1668a85ef53a37e0a9b6b7aa48b3a44"},
		{16, 65, "04213a2198d2919388115942e3ff66433570756295b406d296c4a5f9fb5b5bde"},
		{31, 200, "bb70c3f6678432ef9c55d5cb253ce1aa1a1862342becdf97bd1e3b395e29df42"},
		{32, 0, "865ed9e0d6a8e5d7fb3602f4213101a7bbd0db98f4a92a311e59c4f89ce75b7f"},
		{32, 1, "88d17e7fb1ec38c1d3f1a4fe855d5acb8cd8a6035561843edba62b8e480e7ba7"},
		{32, 64, "1252089056dad43ef4a598b3b136ce5672356ee43d7cdd5611c3a12ab61745c8"},
		{32, 128, "9d1bd69bb2ef745f145a823e92d28b31a8fa98380b49b5c32cb5781312330f1d"},
	} {
		sum, e := digest.Keyed(countdown(c.key), pattern(c.data))
		if e != api.OK {
			t.Fatalf("key of %d bytes: error %d", c.key, e)
		}
		if got := hex(t, sum); got != c.want {
			t.Errorf("key of %d bytes, %d bytes: %s, want %s", c.key, c.data, got, c.want)
		}
	}
}

func TestKeyedWithEmptyKeyIsSum(t *testing.T) {
	for n := range 200 {
		if sum, e := digest.Keyed("", pattern(n)); e != api.OK || sum != digest.Sum(pattern(n)) {
			t.Errorf("%d bytes: error %d, or another digest", n, e)
		}
	}
}

func TestKeyedWithLongKey(t *testing.T) {
	for _, n := range []int{33, 64, 65, 1000} {
		for _, data := range []string{"", "a"} {
			if sum, e := digest.Keyed(countdown(n), data); sum != "" || e != api.ErrArg {
				t.Errorf("key of %d bytes: %q, error %d", n, sum, e)
			}
		}
	}
}

func TestHashTakesInAllParts(t *testing.T) {
	data := pattern(200)
	for n := range len(data) + 1 {
		h := digest.New()
		if k := h.Write(data[:n], "", data[n:]); k != len(data) || h.Sum() != digest.Sum(data) {
			t.Errorf("one call, divided at %d: %d bytes, or another digest", n, k)
		}
		h = digest.New()
		first, second := h.Write(data[:n]), h.Write(data[n:])
		if first != n || second != len(data) || h.Sum() != digest.Sum(data) {
			t.Errorf("two calls, divided at %d: %d and %d bytes, or another digest", n, first, second)
		}
	}
}

func TestHashByteByByte(t *testing.T) {
	h := digest.New()
	data := pattern(300)
	for i := range len(data) {
		if h.Sum() != digest.Sum(data[:i]) {
			t.Fatalf("another digest after %d bytes", i)
		}
		if k := h.Write(data[i : i+1]); k != i+1 {
			t.Fatalf("%d bytes instead of %d", k, i+1)
		}
	}
}

func TestHashOfNothing(t *testing.T) {
	h := digest.New()
	if h.Write() != 0 || h.Write("", "") != 0 || h.Sum() != digest.Sum("") {
		t.Error("a new hash has taken in something")
	}
	if h.Write("abc") != 3 || h.Write() != 3 || h.Write("") != 3 {
		t.Error("Write does not count from New on")
	}
	if h.Sum() != h.Sum() || h.Sum() != digest.Sum("abc") {
		t.Error("Sum changes the hash")
	}
	if digest.New().Sum() != digest.Sum("") {
		t.Error("hashes are not independent")
	}
}

func TestCloneIsIndependent(t *testing.T) {
	for _, n := range []int{0, 1, 63, 64, 65, 128, 150} {
		h := digest.New()
		h.Write(pattern(n))
		c := h.Clone()
		if k := c.Write("x"); k != n+1 || h.Sum() != digest.Sum(pattern(n)) {
			t.Errorf("%d bytes: a clone takes in %d, or changes the hash", n, k)
		}
		if k := h.Write("yz"); k != n+2 || c.Sum() != digest.Sum(pattern(n)+"x") || h.Sum() != digest.Sum(pattern(n)+"yz") {
			t.Errorf("%d bytes: the hash takes in %d, or changes the clone", n, k)
		}
	}
}

func TestHexAndParse(t *testing.T) {
	all := pattern(251) + "\xfb\xfc\xfd\xfe\xff"
	for i := 0; i < len(all); i += api.DigestSize {
		sum := all[i : i+api.DigestSize]
		text := hex(t, sum)
		if text != strings.ToLower(text) || len(text) != 64 {
			t.Errorf("%q is no text of a digest", text)
		}
		if back, e := digest.Parse(text); back != sum || e != api.OK {
			t.Errorf("%s comes back as %q, error %d", text, back, e)
		}
	}
	if text := hex(t, "\x01\x23\x45\x67\x89\xab\xcd\xef"+strings.Repeat("\xf0", 24)); text != "0123456789abcdef"+strings.Repeat("f0", 24) {
		t.Errorf("%s does not have the higher half first", text)
	}
}

func TestHexErrors(t *testing.T) {
	for _, n := range []int{0, 1, 31, 33, 64} {
		if text, e := digest.Hex(pattern(n)); text != "" || e != api.ErrArg {
			t.Errorf("%d bytes: %q, error %d", n, text, e)
		}
	}
}

func TestParseErrors(t *testing.T) {
	zeros := strings.Repeat("0", 64)
	for _, text := range []string{"", "0", zeros[:62], zeros[:63], zeros + "0", zeros + "00", zeros + zeros, strings.Repeat("A", 64)} {
		if sum, e := digest.Parse(text); sum != "" || e != api.ErrSyntax {
			t.Errorf("%q: %q, error %d", text, sum, e)
		}
	}
	for c := range 256 {
		valid := '0' <= c && c <= '9' || 'a' <= c && c <= 'f'
		for _, place := range []int{0, 31, 63} {
			text := zeros[:place] + string([]byte{byte(c)}) + zeros[place+1:]
			sum, e := digest.Parse(text)
			if valid && (len(sum) != 32 || e != api.OK) || !valid && (sum != "" || e != api.ErrSyntax) {
				t.Errorf("%q: %q, error %d", text, sum, e)
			}
		}
	}
}
