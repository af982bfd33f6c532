package compress_test

import (
	"math"
	"math/rand"
	"slices"
	"strings"
	"testing"

	"hopmesh/api"
	"hopmesh/compress"
)

func TestContexts(t *testing.T) {
	for name, l := range lists() {
		before := slices.Clone(l)
		if e := compress.Contexts(l); e != api.OK || !slices.Equal(l, before) {
			t.Errorf("%s: error %d", name, e)
		}
	}
	for name, l := range badLists() {
		if e := compress.Contexts(l); e != api.ErrArg {
			t.Errorf("%s: error %d", name, e)
		}
	}
}

func TestFind(t *testing.T) {
	a := "\x0a\x00\x01\x05"
	for _, c := range []struct {
		name    string
		l       []api.Context
		address string
		want    int
		found   bool
	}{
		{"no context", nil, a, 0, false}, {"none that fits", contexts("\x0b", "\x0a\x01", "\x00\x01\x05", "\x01\x05", "\x05"), a, 0, false}, {"all but the last byte", contexts("\x0a\x00\x01\x06"), a, 0, false},
		{"the first one", contexts("\x0a\x00\x01", "\x0b"), a, 0, true}, {"the last one", contexts("\x0b", "\x0c", "\x0a"), a, 2, true}, {"the last of eight", contexts("a", "b", "c", "d", "e", "f", "g", "\x0a"), a, 7, true},
		{"the longest at last", contexts("\x0a", "\x0a\x00", "\x0a\x00\x01"), a, 2, true}, {"the longest first", contexts("\x0a\x00\x01", "\x0a\x00", "\x0a"), a, 0, true}, {"the longest in the middle", contexts("\x0a", "\x0a\x00\x01\x05", "\x0a\x00"), a, 1, true},
		{"a longer one that does not fit", contexts("\x0a\x00\x02", "\x0a\x00", "\x0a\x00\x01\x06"), a, 1, true},
		{"equal ones", contexts("\x0b", "\x0a\x00", "\x0a\x00", "\x0a\x00"), a, 1, true}, {"equal ones behind a shorter one", contexts("\x0a", "\x0b", "\x0a\x00", "\x0a\x00"), a, 2, true}, {"a whole address", contexts("\x0a\x00\x01", a), a, 1, true}, {"equal whole addresses", contexts(a, a), a, 0, true},
		{"bytes above 127", contexts("\xc3", "\xc3\xa9", "\xc3\xa8"), "\xc3\xa9\xff\x80", 1, true}, {"bytes 0", contexts("\x00\x00"), "\x00\x00\x00\x00", 0, true},
		{"three bytes", contexts("\x0a"), a[:3], 0, false}, {"five bytes", contexts("\x0a", "\x0a\x00"), a + "a", 0, false}, {"no bytes", contexts("\x0a"), "", 0, false},
		{"nine contexts", contexts("\x0a", "\x0a\x00", "c", "d", "e", "f", "g", "h", "i"), a, 0, false}, {"an empty prefix", contexts("", "\x0a"), a, 0, false}, {"an empty prefix at last", contexts("b", "\x0a", ""), a, 0, false}, {"five bytes in a prefix", contexts("b", a, a+"a"), a, 0, false},
	} {
		before := slices.Clone(c.l)
		if got, found := compress.Find(c.l, c.address); got != c.want || found != c.found || !slices.Equal(c.l, before) {
			t.Errorf("%s: %d, %t", c.name, got, found)
		}
	}
}

// between returns a header from one address to another one.
func between(source, target string) api.Header { return api.Header{Source: source, Target: target} }

func TestBest(t *testing.T) {
	three := []api.Header{between("bbb1", "aaa1"), between("ccc1", "aaa2"), between("ccc2", "aaa1")}
	nine := []api.Header{between("iii0", "hhh0"), between("ggg0", "fff0"), between("eee0", "ddd0"), between("ccc0", "bbb0"), between("aaa0", "iii1")}
	wrong := []api.Header{between("bbb1", "ccc"), between("ddd12", "ddd1"), {Source: "eee1", Target: "eee2", Class: 256}, {}, between("fff1", "ggg1"), {Source: "hhh1", Target: "hhh1", Length: -1}}
	for _, c := range []struct {
		name string
		h    []api.Header
		most int
		want []api.Context
	}{
		{"no header", nil, 8, nil}, {"an empty list", []api.Header{}, 1, nil}, {"none that is valid", []api.Header{{}, between("aaa", "bbbb")}, 8, nil},
		{"by frequency", three, 8, contexts("aaa", "ccc", "bbb")}, {"exactly as many", three, 3, contexts("aaa", "ccc", "bbb")}, {"more than most", three, 2, contexts("aaa", "ccc")}, {"only one", three, 1, contexts("aaa")},
		{"most 0", three, 0, nil}, {"most -1", three, -1, nil}, {"most 9", three, 9, nil}, {"a small most", three, math.MinInt, nil}, {"a great most", three, math.MaxInt, nil},
		{"equally frequent", nine, 8, contexts("iii", "aaa", "bbb", "ccc", "ddd", "eee", "fff", "ggg")}, {"equally frequent, fewer", nine, 3, contexts("iii", "aaa", "bbb")},
		{"not valid ones among others", wrong, 8, contexts("fff", "ggg")},
		{"one prefix on both sides", []api.Header{between("ccc1", "bbb1"), between("ddd1", "ddd1"), between("bbb2", "eee1")}, 8, contexts("bbb", "ddd", "ccc", "eee")}, {"source and target in one prefix", []api.Header{between("bbb1", "aaa1"), between("ddd1", "ddd2")}, 2, contexts("ddd", "aaa")},
		{"bytes above 127", []api.Header{between("\xff\xfe\xfd\x01", "\x7fbc\x01"), between("\x80\x00\x00\x00", "\x00\x00\x00\x00")}, 8, contexts("\x00\x00\x00", "\x7fbc", "\x80\x00\x00", "\xff\xfe\xfd")}, {"a difference in the third byte", []api.Header{between("ab\xc3a", "ab\xc2b")}, 8, contexts("ab\xc2", "ab\xc3")},
		{"many of them", slices.Repeat(three, 500), 2, contexts("aaa", "ccc")},
	} {
		before := slices.Clone(c.h)
		if got := compress.Best(c.h, c.most); !slices.Equal(got, c.want) || !slices.Equal(c.h, before) {
			t.Errorf("%s: %q, want %q", c.name, got, c.want)
		}
	}
}

func TestResultsOfBestShareNoMemory(t *testing.T) {
	h := []api.Header{between("aaa1", "bbb1"), between("ccc1", "aaa2")}
	first := compress.Best(h, 8)
	first[0].Prefix = "changed"
	if second := compress.Best(h, 8); !slices.Equal(second, contexts("aaa", "bbb", "ccc")) || h[0] != between("aaa1", "bbb1") {
		t.Errorf("%q, %v", second, h)
	}
}

// randomBytes returns bytes that are often equal to others.
func randomBytes(r *rand.Rand, n int) string {
	b := make([]byte, n)
	for i := range b {
		b[i] = "\x00\x0a\xff\x80"[r.Intn(4)]
		if i > 1 && r.Intn(3) == 0 {
			b[i] = byte(r.Intn(256))
		}
	}
	return string(b)
}

// randomHeader returns a valid header.
func randomHeader(r *rand.Rand) api.Header {
	pick := func(n ...int) int { return n[r.Intn(len(n))] }
	h := api.Header{Class: pick(0, 0, r.Intn(256)), Limit: pick(1, 64, 255, r.Intn(256)), Source: randomBytes(r, 4), Target: randomBytes(r, 4), Length: pick(r.Intn(64), r.Intn(4096))}
	h.Port = pick(61600+r.Intn(40), 61430+r.Intn(300), r.Intn(65536))
	h.Reply = pick(61600+r.Intn(40), h.Port, r.Intn(65536))
	return h
}

// randomContexts returns up to 8 contexts.
func randomContexts(r *rand.Rand) []api.Context {
	var l []api.Context
	for range r.Intn(9) {
		l = append(l, api.Context{Prefix: randomBytes(r, 1+r.Intn(4))})
	}
	return l
}

func TestConsequencesForRandomHeaders(t *testing.T) {
	r := rand.New(rand.NewSource(14))
	for range 5000 {
		l, h := randomContexts(r), randomHeader(r)
		all(t, "a random header", l, h)
		n, _ := compress.Bits(l, h)
		if n < 28 || n > 132 {
			t.Errorf("%q, %v: %d bits", l, h, n)
		}
		if len(l) == 8 {
			continue
		}
		for _, prefix := range []string{randomBytes(r, 1+r.Intn(4)), h.Source[:1+r.Intn(4)], h.Target[:1+r.Intn(4)]} {
			at := r.Intn(len(l) + 1)
			if more, e := compress.Bits(slices.Insert(slices.Clone(l), at, api.Context{Prefix: prefix}), h); more > n || e != api.OK {
				t.Errorf("%q, %v: with the further context %q %d bits, without %d", l, h, prefix, more, n)
			}
		}
	}
}

func TestTheShortestAndTheLongestHeader(t *testing.T) {
	short := with(header(), func(h *api.Header) { h.Target = h.Source })
	if n, e := compress.Bits(contexts(short.Source), short); n != 28 || e != api.OK {
		t.Errorf("%d bits, error %d", n, e)
	}
	long := api.Header{Class: 255, Limit: 254, Source: "abcd", Target: "efgh", Port: 1, Reply: 2, Length: 64}
	if n, e := compress.Bits(contexts("b", "f"), long); n != 132 || e != api.OK {
		t.Errorf("%d bits, error %d", n, e)
	}
}

// What is expanded begins with what Compress returns for it, whatever the bits are.
func TestWhatIsExpandedIsCompressed(t *testing.T) {
	r := rand.New(rand.NewSource(15))
	accepted, refused := 0, 0
	for range 30000 {
		l := randomContexts(r)
		b := []byte(pack(spell(l, randomHeader(r))) + randomBytes(r, r.Intn(3)))
		for range r.Intn(3) {
			b[r.Intn(len(b))] ^= 1 << r.Intn(8)
		}
		data := string(b)
		h, rest, e := compress.Expand(l, data)
		if e != api.OK {
			refused++
			if e != api.ErrCorrupt || h != (api.Header{}) || rest != "" {
				t.Fatalf("%x: %v, %q, error %d", data, h, rest, e)
			}
			continue
		}
		accepted++
		if again, e := compress.Compress(l, h); again+rest != data || e != api.OK || compress.Check(h) != api.OK {
			t.Fatalf("%x: %v, which is %x, and %x, error %d", data, h, again, rest, e)
		}
		if !strings.HasPrefix(data, pack(spell(l, h))) {
			t.Fatalf("%x does not begin with %v", data, h)
		}
	}
	if accepted < 5000 || refused < 2000 {
		t.Errorf("%d strings are accepted, %d refused", accepted, refused)
	}
}
