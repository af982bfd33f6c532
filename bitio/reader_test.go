package bitio_test

import (
	"math"
	"strings"
	"testing"

	"hopmesh/api"
	"hopmesh/bitio"
)

func TestReaderReadsTheExample(t *testing.T) {
	r := bitio.NewReader("\xbf\x50\x40")
	if r.Left() != 24 || r.Err() != api.OK {
		t.Errorf("%d bits, error %d", r.Left(), r.Err())
	}
	if n := r.Unsigned(3); n != 5 || r.Left() != 21 {
		t.Errorf("unsigned %d, %d bits left", n, r.Left())
	}
	if n := r.Signed(4); n != -1 || r.Left() != 17 {
		t.Errorf("signed %d, %d bits left", n, r.Left())
	}
	if !r.Flag() || r.Left() != 16 {
		t.Errorf("no flag, %d bits left", r.Left())
	}
	if s := r.Text(3); s != "A" || r.Left() != 6 {
		t.Errorf("text %q, %d bits left", s, r.Left())
	}
	if r.Err() != api.OK || r.Close() != api.OK || r.Left() != 6 {
		t.Errorf("errors %d and %d", r.Err(), r.Close())
	}
}

func TestReaderReadsBothEnds(t *testing.T) {
	ones, high := strings.Repeat("\xff", 8), "\x80"+strings.Repeat("\x00", 7)
	for _, c := range []struct {
		data     string
		width    int
		unsigned int
		signed   int
	}{
		{"\x00", 2, 0, 0}, {"\x40", 2, 1, 1}, {"\x80", 2, 2, -2}, {"\xc0", 2, 3, -1},
		{"\x7f", 8, 127, 127}, {"\x80", 8, 128, -128}, {"\xff", 8, 255, -1},
		{"\x7f\xff", 9, 255, 255}, {"\x80\x00", 9, 256, -256},
		{ones, 62, 1<<62 - 1, -1}, {high, 62, 1 << 61, -1 << 61},
		{ones, 63, math.MaxInt, -1}, {high, 63, 1 << 62, -1 << 62}, {"\x7f" + ones, 63, 1<<62 - 1, 1<<62 - 1},
	} {
		if n := bitio.NewReader(c.data).Unsigned(c.width); n != c.unsigned {
			t.Errorf("unsigned of %d in %x: %d", c.width, c.data, n)
		}
		if n := bitio.NewReader(c.data).Signed(c.width); n != c.signed {
			t.Errorf("signed of %d in %x: %d", c.width, c.data, n)
		}
	}
	if bitio.NewReader("\x80").Unsigned(1) != 1 || bitio.NewReader("\x7f").Unsigned(1) != 0 {
		t.Error("unsigned of 1")
	}
	if bitio.NewReader("\x7f").Flag() || !bitio.NewReader("\x80").Flag() {
		t.Error("flag")
	}
}

// fields are the kinds of fields, each read so that the result says whether it is a zero value.
func fields() map[string]func(r *bitio.Reader) bool {
	return map[string]func(r *bitio.Reader) bool{
		"unsigned": func(r *bitio.Reader) bool { return r.Unsigned(1) == 0 },
		"signed":   func(r *bitio.Reader) bool { return r.Signed(2) == 0 },
		"flag":     func(r *bitio.Reader) bool { return !r.Flag() },
		"text":     func(r *bitio.Reader) bool { return r.Text(1) == "" },
		"no field": func(r *bitio.Reader) bool { return r.Unsigned(0) == 0 && r.Signed(64) == 0 && r.Text(0) == "" },
	}
}

func TestReaderErrors(t *testing.T) {
	long := strings.Repeat("\xff", 600)
	for name, c := range map[string]struct {
		data string
		read func(r *bitio.Reader) bool
		want api.Errno
	}{
		"unsigned of 0":             {long, func(r *bitio.Reader) bool { return r.Unsigned(0) == 0 }, api.ErrArg},
		"unsigned of -1":            {long, func(r *bitio.Reader) bool { return r.Unsigned(-1) == 0 }, api.ErrArg},
		"unsigned of 64":            {long, func(r *bitio.Reader) bool { return r.Unsigned(64) == 0 }, api.ErrArg},
		"unsigned of least":         {long, func(r *bitio.Reader) bool { return r.Unsigned(math.MinInt) == 0 }, api.ErrArg},
		"unsigned of most, nothing": {"", func(r *bitio.Reader) bool { return r.Unsigned(math.MaxInt) == 0 }, api.ErrArg},
		"signed of 1":               {long, func(r *bitio.Reader) bool { return r.Signed(1) == 0 }, api.ErrArg},
		"signed of 64":              {long, func(r *bitio.Reader) bool { return r.Signed(64) == 0 }, api.ErrArg},
		"signed of least":           {long, func(r *bitio.Reader) bool { return r.Signed(math.MinInt) == 0 }, api.ErrArg},
		"signed of most, nothing":   {"", func(r *bitio.Reader) bool { return r.Signed(math.MaxInt) == 0 }, api.ErrArg},
		"limit 0":                   {long, func(r *bitio.Reader) bool { return r.Text(0) == "" }, api.ErrArg},
		"limit -1":                  {long, func(r *bitio.Reader) bool { return r.Text(-1) == "" }, api.ErrArg},
		"limit 4096":                {long, func(r *bitio.Reader) bool { return r.Text(4096) == "" }, api.ErrArg},
		"least limit":               {long, func(r *bitio.Reader) bool { return r.Text(math.MinInt) == "" }, api.ErrArg},
		"most limit, nothing":       {"", func(r *bitio.Reader) bool { return r.Text(math.MaxInt) == "" }, api.ErrArg},
		"unsigned, too few":         {"\xff", func(r *bitio.Reader) bool { return r.Unsigned(9) == 0 }, api.ErrShort},
		"unsigned of 63, too few":   {long[:7], func(r *bitio.Reader) bool { return r.Unsigned(63) == 0 }, api.ErrShort},
		"signed, too few":           {"\xff", func(r *bitio.Reader) bool { return r.Signed(9) == 0 }, api.ErrShort},
		"a flag of nothing":         {"", func(r *bitio.Reader) bool { return !r.Flag() }, api.ErrShort},
		"too few for a length":      {"\xff", func(r *bitio.Reader) bool { return r.Text(4095) == "" }, api.ErrShort},
		"too few for the bytes":     {"\x03ab", func(r *bitio.Reader) bool { return r.Text(255) == "" }, api.ErrShort},
		"one bit too few":           {"\x80", func(r *bitio.Reader) bool { return r.Text(1) == "" }, api.ErrShort},
		"too great a length":        {long, func(r *bitio.Reader) bool { return r.Text(4094) == "" }, api.ErrRange},
		"too great, and too few":    {"\xc0", func(r *bitio.Reader) bool { return r.Text(2) == "" }, api.ErrRange},
	} {
		r := bitio.NewReader(c.data)
		if !c.read(r) || r.Err() != c.want || r.Left() != 0 || r.Close() != c.want {
			t.Errorf("%s: errors %d and %d, %d bits left", name, r.Err(), r.Close(), r.Left())
		}
		for later, read := range fields() {
			if !read(r) || r.Err() != c.want || r.Left() != 0 {
				t.Errorf("%s, then %s: error %d, %d bits left", name, later, r.Err(), r.Left())
			}
		}
	}
}

func TestReaderEndsWithinAField(t *testing.T) {
	r := bitio.NewReader("\xa5")
	if r.Unsigned(4) != 10 || r.Left() != 4 || r.Unsigned(5) != 0 || r.Err() != api.ErrShort || r.Left() != 0 {
		t.Errorf("error %d, %d bits left", r.Err(), r.Left())
	}
	r = bitio.NewReader("\xa5")
	if r.Unsigned(4) != 10 || r.Unsigned(4) != 5 || r.Left() != 0 || r.Close() != api.OK || r.Flag() || r.Close() != api.ErrShort {
		t.Errorf("error %d, %d bits left", r.Err(), r.Left())
	}
}

func TestReaderOfTheLongestString(t *testing.T) {
	data := strings.Repeat("\x01", api.MaxData)
	r := bitio.NewReader(data)
	if r.Left() != 8*api.MaxData || r.Err() != api.OK || r.Unsigned(8) != 1 {
		t.Errorf("error %d, %d bits left", r.Err(), r.Left())
	}
	for _, extra := range []string{"\x00", data} {
		r = bitio.NewReader(data + extra)
		if r.Left() != 0 || r.Err() != api.ErrTooLarge || r.Close() != api.ErrTooLarge {
			t.Errorf("one byte above: error %d, %d bits left", r.Err(), r.Left())
		}
		for name, read := range fields() {
			if !read(r) || r.Err() != api.ErrTooLarge || r.Left() != 0 {
				t.Errorf("one byte above, then %s: error %d", name, r.Err())
			}
		}
	}
}

func TestClose(t *testing.T) {
	for _, c := range []struct {
		data string
		read int
		want api.Errno
	}{
		{"", 0, api.OK}, {"\x00", 0, api.ErrCorrupt}, {"\x00", 1, api.OK}, {"\x00", 8, api.OK},
		{"\x80", 1, api.OK}, {"\x01", 1, api.ErrCorrupt}, {"\x40", 1, api.ErrCorrupt}, {"\x01", 7, api.ErrCorrupt}, {"\x01", 8, api.OK},
		{"\xff\x00", 8, api.ErrCorrupt}, {"\xff\x00", 7, api.ErrCorrupt}, {"\xff\x00", 9, api.OK}, {"\xff\x10", 11, api.ErrCorrupt}, {"\xff\x10", 12, api.OK},
	} {
		r := bitio.NewReader(c.data)
		for range c.read {
			r.Flag()
		}
		left := r.Left()
		if r.Close() != c.want || r.Close() != c.want || r.Err() != api.OK || r.Left() != left {
			t.Errorf("%x after %d bits: %d, and then error %d, %d bits left", c.data, c.read, r.Close(), r.Err(), r.Left())
		}
	}
	r := bitio.NewReader("\xa5\x01")
	if r.Unsigned(8) != 0xa5 || r.Close() != api.ErrCorrupt || r.Unsigned(7) != 0 || r.Close() != api.ErrCorrupt || !r.Flag() || r.Close() != api.OK {
		t.Error("Close changes the reader")
	}
}

func TestWidth(t *testing.T) {
	for _, c := range [][2]int{
		{math.MinInt, 0}, {-2, 0}, {-1, 0}, {0, 1}, {1, 1}, {2, 2}, {3, 2}, {4, 3}, {7, 3}, {8, 4}, {255, 8}, {256, 9},
		{4095, 12}, {4096, 13}, {1<<62 - 1, 62}, {1 << 62, 63}, {math.MaxInt, 63},
	} {
		if n := bitio.Width(c[0]); n != c[1] {
			t.Errorf("Width(%d) = %d, want %d", c[0], n, c[1])
		}
	}
}
