package crc_test

import (
	"math"
	"math/rand"
	"testing"

	"hopmesh/api"
	"hopmesh/crc"
)

const (
	generator = 1<<16 | 1<<12 | 1<<5 | 1
	period    = 32767
)

// pattern returns n bytes, the i-th of which is i modulo 251.
func pattern(n int) string {
	b := make([]byte, n)
	for i := range b {
		b[i] = byte(i % 251)
	}
	return string(b)
}

// random returns n bytes.
func random(r *rand.Rand, n int) string {
	b := make([]byte, n)
	r.Read(b)
	return string(b)
}

// flip returns a string whose bits at some places, counted from the last one on, are wrong.
func flip(data string, places ...int) string {
	b := []byte(data)
	for _, i := range places {
		b[len(b)-1-i/8] ^= 1 << (i % 8)
	}
	return string(b)
}

// remainder divides a polynomial of at most 64 bits by the generator, as one does it by hand.
func remainder(p uint64) uint16 {
	for i := 63; i >= 16; i-- {
		if p>>i&1 == 1 {
			p ^= generator << (i - 16)
		}
	}
	return uint16(p)
}

// times multiplies two polynomials without dividing them.
func times(a, b uint16) uint64 {
	var product uint64
	for i := range 16 {
		if b>>i&1 == 1 {
			product ^= uint64(a) << i
		}
	}
	return product
}

func TestMultiply(t *testing.T) {
	for _, c := range []struct{ a, b, want uint16 }{
		{0, 0, 0}, {0, 0xffff, 0}, {1, 1, 1}, {1, 0xffff, 0xffff},
		{0x8000, 2, 0x1021}, {2, 0x8000, 0x1021}, {0x4000, 2, 0x8000}, {0x1021, 2, 0x2042},
		{0x100, 0x100, 0x1021}, {3, 3, 5},
	} {
		if got := crc.Multiply(c.a, c.b); got != c.want {
			t.Errorf("Multiply(%x, %x) = %x, want %x", c.a, c.b, got, c.want)
		}
	}
	r := rand.New(rand.NewSource(1))
	for range 20000 {
		a, b, c := uint16(r.Uint32()), uint16(r.Uint32()), uint16(r.Uint32())
		got := crc.Multiply(a, b)
		if want := remainder(times(a, b)); got != want {
			t.Fatalf("Multiply(%x, %x) = %x, want %x", a, b, got, want)
		}
		if got != crc.Multiply(b, a) || crc.Multiply(a, b^c) != got^crc.Multiply(a, c) {
			t.Fatalf("%x times %x and %x: another product in another order, or in parts", a, b, c)
		}
	}
}

func TestPower(t *testing.T) {
	for _, c := range []struct {
		n    int
		want uint16
	}{
		{0, 1}, {1, 2}, {14, 0x4000}, {15, 0x8000}, {16, 0x1021}, {17, 0x2042}, {31, 0x1b98}, {32, 0x3730},
		{100, 0x553d}, {1000, 0x52cf}, {period - 1, 0x8810}, {period, 1}, {period + 1, 2}, {8 * api.MaxData, 0x1021},
		{1 << 31, 4}, {1 << 62, 0x10}, {1000000000000000000, 0x9df3}, {math.MaxInt, 0x80},
		{-1, 0}, {-16, 0}, {-period, 0}, {math.MinInt, 0},
	} {
		if got := crc.Power(c.n); got != c.want {
			t.Errorf("Power(%d) = %x, want %x", c.n, got, c.want)
		}
	}
	for n := range 48 {
		if got, want := crc.Power(n), remainder(1<<n); got != want {
			t.Errorf("Power(%d) = %x, want %x", n, got, want)
		}
	}
	r := rand.New(rand.NewSource(2))
	for range 2000 {
		m, n := r.Intn(1<<62), r.Intn(1<<62)
		if crc.Power(m+n) != crc.Multiply(crc.Power(m), crc.Power(n)) {
			t.Fatalf("the powers %d and %d do not give their sum", m, n)
		}
	}
}

// The answers are those of another implementation: binascii.crc_hqx of Python.
func TestSum(t *testing.T) {
	for _, c := range []struct {
		data string
		want uint16
	}{
		{"", 0}, {"\x00", 0}, {"\x01", 0x1021}, {"\x80", 0x9188}, {"\xff", 0x1ef0}, {"A", 0x58e5},
		{"\x00\x01", 0x1021}, {"\x01\x00", 0x3331}, {"\xff\xff", 0x1d0f}, {"123456789", 0x31c3},
		{pattern(3), 0x1373}, {pattern(16), 0x513d}, {pattern(127), 0x3141}, {pattern(128), 0xe80a},
		{pattern(1000), 0x85d3}, {pattern(65536), 0xe71f},
	} {
		if got := crc.Sum(c.data); got != c.want {
			t.Errorf("%d bytes: %x, want %x", len(c.data), got, c.want)
		}
	}
}

func TestSumOfShortStrings(t *testing.T) {
	for a := range 256 {
		if got, want := crc.Sum(string([]byte{byte(a)})), remainder(uint64(a)<<16); got != want {
			t.Fatalf("%x: %x, want %x", a, got, want)
		}
		for b := range 256 {
			if got, want := crc.Sum(string([]byte{byte(a), byte(b)})), remainder(uint64(a<<8|b)<<16); got != want {
				t.Fatalf("%x %x: %x, want %x", a, b, got, want)
			}
		}
	}
}

func TestDividedAtEachPlace(t *testing.T) {
	for _, n := range []int{0, 1, 2, 3, 40, 300} {
		data := pattern(n) + "x"
		want := crc.Sum(data)
		for i := range len(data) + 1 {
			first, second := crc.Sum(data[:i]), crc.Sum(data[i:])
			if got := crc.Update(first, data[i:]); got != want {
				t.Errorf("Update, %d bytes divided at %d: %x, want %x", len(data), i, got, want)
			}
			if got := crc.Combine(first, second, len(data)-i); got != want {
				t.Errorf("Combine, %d bytes divided at %d: %x, want %x", len(data), i, got, want)
			}
		}
	}
}

func TestUpdate(t *testing.T) {
	for _, sum := range []uint16{0, 1, 0x1021, 0x8000, 0xffff} {
		if got := crc.Update(sum, ""); got != sum {
			t.Errorf("%x becomes %x behind nothing", sum, got)
		}
		if got, want := crc.Update(sum, "A"), remainder(uint64(sum)<<8)^crc.Sum("A"); got != want {
			t.Errorf("Update(%x, A) = %x, want %x", sum, got, want)
		}
	}
}

func TestCombine(t *testing.T) {
	for _, c := range []struct {
		a, b uint16
		n    int
		want uint16
	}{
		{0, 0, 0, 0}, {0x1234, 0x5678, 0, 0x1234 ^ 0x5678}, {1, 0, 1, 0x100}, {1, 0, 2, 0x1021}, {1, 0xffff, 2, 0x1021 ^ 0xffff},
		{0x1234, 0x5678, -1, 0x5678}, {0xffff, 1, math.MinInt, 1}, {0xffff, 0, -1, 0},
		{0x1234, 0, period, 0x1234}, {0x1234, 1, period + 1, crc.Multiply(0x1234, 0x100) ^ 1},
		// 2^60 modulo the period is 1, so that 8 * 2^60 counts as 8
		{1, 0, 1 << 60, 0x100}, {1, 0, 1 << 61, 0x1021}, {0x1234, 0x5678, math.MaxInt, crc.Multiply(0x1234, crc.Power(8*7)) ^ 0x5678},
	} {
		if got := crc.Combine(c.a, c.b, c.n); got != c.want {
			t.Errorf("Combine(%x, %x, %d) = %x, want %x", c.a, c.b, c.n, got, c.want)
		}
	}
}

func TestProtect(t *testing.T) {
	for _, c := range []struct{ data, want string }{
		{"", "\x00\x00"}, {"A", "A\x58\xe5"}, {"\x00", "\x00\x00\x00"}, {"\x00\x01", "\x00\x01\x10\x21"}, {"123456789", "123456789\x31\xc3"},
	} {
		if got := crc.Protect(c.data); got != c.want {
			t.Errorf("Protect(%q) = %q, want %q", c.data, got, c.want)
		}
	}
	for n := range 200 {
		protected := crc.Protect(pattern(n))
		if data, e := crc.Check(protected); data != pattern(n) || e != api.OK {
			t.Errorf("%d bytes come back as %q, error %d", n, data, e)
		}
		if s, e := crc.Syndrome(protected); s != 0 || e != api.OK {
			t.Errorf("%d bytes: the syndrome is %x, error %d", n, s, e)
		}
	}
}

func TestCheck(t *testing.T) {
	for _, c := range []struct {
		data, want string
		e          api.Errno
	}{
		{"", "", api.ErrShort}, {"\x00", "", api.ErrShort}, {"A", "", api.ErrShort},
		{"\x00\x00", "", api.OK}, {"\x00\x01", "", api.ErrCorrupt}, {"\x01\x00", "", api.ErrCorrupt}, {"AB", "", api.ErrCorrupt},
		{"A\x58\xe5", "A", api.OK}, {"A\xe5\x58", "", api.ErrCorrupt}, {"A\x58\xe4", "", api.ErrCorrupt}, {"A\x59\xe5", "", api.ErrCorrupt}, {"B\x58\xe5", "", api.ErrCorrupt},
		{"\x00A\x58\xe5", "\x00A", api.OK}, {"A\x58\xe5\x01", "", api.ErrCorrupt},
	} {
		if got, e := crc.Check(c.data); got != c.want || e != c.e {
			t.Errorf("Check(%q) = %q, error %d, want %q, error %d", c.data, got, e, c.want, c.e)
		}
	}
}

func TestSyndrome(t *testing.T) {
	for _, c := range []struct {
		data string
		want uint16
		e    api.Errno
	}{
		{"", 0, api.ErrShort}, {"\x01", 0, api.ErrShort},
		{"\x00\x00", 0, api.OK}, {"\x12\x34", 0x1234, api.OK}, {"\x00\x00\x01", 1, api.OK}, {"\x01\x00\x00", 0x1021, api.OK},
		{"A\x58\xe5", 0, api.OK}, {"A\x00\x00", 0x58e5, api.OK}, {"\x00\x58\xe5", 0x58e5, api.OK},
	} {
		if got, e := crc.Syndrome(c.data); got != c.want || e != c.e {
			t.Errorf("Syndrome(%q) = %x, error %d, want %x, error %d", c.data, got, e, c.want, c.e)
		}
	}
}

func TestLocate(t *testing.T) {
	const most = 8 * api.MaxData
	for _, c := range []struct {
		syndrome uint16
		bits     int
		want     int
		found    bool
	}{
		{1, 24, 0, true}, {1, 1, 0, true}, {1, 0, 0, false}, {1, -1, 0, false}, {1, math.MinInt, 0, false},
		{2, 1, 0, false}, {2, 2, 1, true}, {0x8000, 15, 0, false}, {0x8000, 16, 15, true},
		{0x1021, 16, 0, false}, {0x1021, 17, 16, true}, {0x1021, most + 1, 16, true},
		{0x8810, period - 1, 0, false}, {0x8810, period, period - 1, true}, {0x8810, period + 1, period - 1, true},
		{0x8810, most, period - 1, true}, {0x8810, most + 1, period - 1, true}, {0x8810, math.MaxInt, period - 1, true},
		{0, 0, 0, false}, {0, 24, 0, false}, {0, most, 0, false}, {0, math.MaxInt, 0, false},
		// an even number of wrong bits leads to these
		{3, most, 0, false}, {3, math.MaxInt, 0, false}, {0xffff, most, 0, false},
	} {
		if got, found := crc.Locate(c.syndrome, c.bits); got != c.want || found != c.found {
			t.Errorf("Locate(%x, %d) = %d, %t, want %d, %t", c.syndrome, c.bits, got, found, c.want, c.found)
		}
	}
}

func TestLocateFindsEachPower(t *testing.T) {
	places := map[uint16]int{}
	power := uint16(1)
	for i := range period {
		if _, known := places[power]; !known {
			places[power] = i
		}
		power = crc.Multiply(power, 2)
	}
	if power != 1 || len(places) != period {
		t.Fatalf("x to the %d is %x, and there are %d powers", period, power, len(places))
	}
	for s := 0; s < 1<<16; s += 7 {
		want, found := places[uint16(s)]
		if got, ok := crc.Locate(uint16(s), math.MaxInt); got != want || ok != found {
			t.Fatalf("Locate(%x) = %d, %t, want %d, %t", s, got, ok, want, found)
		}
		if !found {
			continue
		}
		if got, ok := crc.Locate(uint16(s), want); got != 0 || ok {
			t.Fatalf("Locate(%x, %d) = %d, %t", s, want, got, ok)
		}
		if got, ok := crc.Locate(uint16(s), want+1); got != want || !ok {
			t.Fatalf("Locate(%x, %d) = %d, %t", s, want+1, got, ok)
		}
	}
}

func TestSumIsLinear(t *testing.T) {
	r := rand.New(rand.NewSource(3))
	for range 500 {
		n := r.Intn(100)
		a, b := random(r, n), random(r, n)
		both := make([]byte, n)
		for i := range both {
			both[i] = a[i] ^ b[i]
		}
		if crc.Sum(string(both)) != crc.Sum(a)^crc.Sum(b) {
			t.Fatalf("%q and %q: the sum of the exclusive or is another one", a, b)
		}
	}
}

// reject fails if a string counts as a protected one.
func reject(t *testing.T, data string) {
	t.Helper()
	if got, e := crc.Check(data); got != "" || e != api.ErrCorrupt {
		t.Errorf("Check(%q) = %q, error %d", data, got, e)
	}
	if s, e := crc.Syndrome(data); s == 0 || e != api.OK {
		t.Errorf("Syndrome(%q) = %x, error %d", data, s, e)
	}
}

func TestOneWrongBitIsFoundAndLocated(t *testing.T) {
	for _, n := range []int{0, 1, 2, 20, 100} {
		data := crc.Protect(pattern(n))
		for i := range 8 * len(data) {
			wrong := flip(data, i)
			reject(t, wrong)
			syndrome, _ := crc.Syndrome(wrong)
			if syndrome != crc.Power(i) {
				t.Errorf("bit %d leads to %x", i, syndrome)
			}
			if place, found := crc.Locate(syndrome, 8*len(data)); place != i || !found {
				t.Errorf("bit %d of %d is located at %d, %t", i, 8*len(data), place, found)
			}
		}
	}
}

func TestTwoWrongBitsAreFound(t *testing.T) {
	short := crc.Protect(pattern(10))
	for j := range 8 * len(short) {
		for i := range j {
			reject(t, flip(short, i, j))
		}
	}
	long := crc.Protect(pattern(period/8 + 10))
	for _, apart := range []int{1, 16, 1000, 16384, period - 1} {
		reject(t, flip(long, 0, apart))
		reject(t, flip(long, 20, 20+apart))
	}
	for _, i := range []int{0, 1, 50} {
		if _, e := crc.Check(flip(long, i, i+period)); e != api.OK {
			t.Errorf("two wrong bits as far apart as the period: error %d", e)
		}
	}
}

func TestOddNumbersOfWrongBitsAreFound(t *testing.T) {
	r := rand.New(rand.NewSource(4))
	for range 3000 {
		data := crc.Protect(random(r, r.Intn(60)))
		places := r.Perm(8 * len(data))
		odd := 1 + 2*r.Intn(len(places)/2)
		reject(t, flip(data, places[:odd]...))
	}
}

func TestBurstsAreFound(t *testing.T) {
	r := rand.New(rand.NewSource(5))
	data := crc.Protect(pattern(12))
	for first := range 8*len(data) - 15 {
		for burst := 1; burst < 1<<16; burst += 1 + r.Intn(200) {
			var places []int
			for i := range 16 {
				if burst>>i&1 == 1 {
					places = append(places, first+i)
				}
			}
			reject(t, flip(data, places...))
		}
	}
}
