package bitio_test

import (
	"math"
	"strings"
	"testing"

	"hopmesh/api"
	"hopmesh/bitio"
)

// written is what a writer shows.
type written struct {
	bits int
	data string
	err  api.Errno
}

// see returns what a writer shows.
func see(w *bitio.Writer) written {
	data, e := w.Bytes()
	return written{w.Bits(), data, e}
}

func TestWriterWritesFields(t *testing.T) {
	const top = math.MaxInt
	for name, c := range map[string]struct {
		write func(w *bitio.Writer)
		want  written
	}{
		"nothing":                {func(w *bitio.Writer) {}, written{0, "", api.OK}},
		"example":                {func(w *bitio.Writer) { w.Unsigned(3, 5); w.Signed(4, -1); w.Flag(true); w.Text(3, "A") }, written{18, "\xbf\x50\x40", api.OK}},
		"unsigned of 1, least":   {func(w *bitio.Writer) { w.Unsigned(1, 0) }, written{1, "\x00", api.OK}},
		"unsigned of 1, most":    {func(w *bitio.Writer) { w.Unsigned(1, 1) }, written{1, "\x80", api.OK}},
		"unsigned of 8, most":    {func(w *bitio.Writer) { w.Unsigned(8, 255) }, written{8, "\xff", api.OK}},
		"unsigned of 16":         {func(w *bitio.Writer) { w.Unsigned(16, 0x1234) }, written{16, "\x12\x34", api.OK}},
		"unsigned of 63, least":  {func(w *bitio.Writer) { w.Unsigned(63, 0) }, written{63, strings.Repeat("\x00", 8), api.OK}},
		"unsigned of 63, most":   {func(w *bitio.Writer) { w.Unsigned(63, top) }, written{63, strings.Repeat("\xff", 7) + "\xfe", api.OK}},
		"signed of 2, least":     {func(w *bitio.Writer) { w.Signed(2, -2) }, written{2, "\x80", api.OK}},
		"signed of 2, most":      {func(w *bitio.Writer) { w.Signed(2, 1) }, written{2, "\x40", api.OK}},
		"signed of 8":            {func(w *bitio.Writer) { w.Signed(8, -2) }, written{8, "\xfe", api.OK}},
		"signed of 63, least":    {func(w *bitio.Writer) { w.Signed(63, -1<<62) }, written{63, "\x80" + strings.Repeat("\x00", 7), api.OK}},
		"signed of 63, most":     {func(w *bitio.Writer) { w.Signed(63, 1<<62-1) }, written{63, "\x7f" + strings.Repeat("\xff", 6) + "\xfe", api.OK}},
		"flags":                  {func(w *bitio.Writer) { w.Flag(true); w.Flag(false); w.Flag(true) }, written{3, "\xa0", api.OK}},
		"text, limit 1":          {func(w *bitio.Writer) { w.Text(1, "A") }, written{9, "\xa0\x80", api.OK}},
		"text, empty":            {func(w *bitio.Writer) { w.Text(256, "") }, written{9, "\x00\x00", api.OK}},
		"text, width 8":          {func(w *bitio.Writer) { w.Text(255, "A") }, written{16, "\x01A", api.OK}},
		"text, greatest limit":   {func(w *bitio.Writer) { w.Flag(true); w.Text(4095, "ab") }, written{29, "\x80\x13\x0b\x10", api.OK}},
		"nine bits, no gap":      {func(w *bitio.Writer) { w.Unsigned(8, 0xab); w.Flag(true) }, written{9, "\xab\x80", api.OK}},
		"a flag and eight bits":  {func(w *bitio.Writer) { w.Flag(false); w.Unsigned(8, 0xff) }, written{9, "\x7f\x80", api.OK}},
		"a text of bytes beyond": {func(w *bitio.Writer) { w.Text(255, "\xff\x00\x80") }, written{32, "\x03\xff\x00\x80", api.OK}},
	} {
		w := bitio.NewWriter()
		c.write(w)
		if got := see(w); got != c.want {
			t.Errorf("%s: %+v, want %+v", name, got, c.want)
		}
	}
}

func TestWriterTextAtItsLimit(t *testing.T) {
	for _, most := range []int{1, 2, 3, 4, 127, 128, 255, 256, 4094, 4095} {
		text := strings.Repeat("z", most)
		w := bitio.NewWriter()
		w.Text(most, text)
		data, e := w.Bytes()
		if e != api.OK || w.Bits() != bitio.Width(most)+8*most {
			t.Errorf("limit %d: %d bits, error %d", most, w.Bits(), e)
		}
		r := bitio.NewReader(data)
		if r.Text(most) != text || r.Close() != api.OK {
			t.Errorf("limit %d: another text, error %d", most, r.Err())
		}
		w = bitio.NewWriter()
		w.Text(most, text+"z")
		if got := see(w); got != (written{0, "", api.ErrTooLarge}) {
			t.Errorf("limit %d, one byte above: %+v", most, got)
		}
	}
}

func TestWriterErrors(t *testing.T) {
	for name, c := range map[string]struct {
		write func(w *bitio.Writer)
		want  api.Errno
	}{
		"unsigned of 0":             {func(w *bitio.Writer) { w.Unsigned(0, 0) }, api.ErrArg},
		"unsigned of -1":            {func(w *bitio.Writer) { w.Unsigned(-1, 0) }, api.ErrArg},
		"unsigned of 64":            {func(w *bitio.Writer) { w.Unsigned(64, 0) }, api.ErrArg},
		"unsigned of least":         {func(w *bitio.Writer) { w.Unsigned(math.MinInt, -1) }, api.ErrArg},
		"unsigned of most":          {func(w *bitio.Writer) { w.Unsigned(math.MaxInt, math.MinInt) }, api.ErrArg},
		"unsigned, one above":       {func(w *bitio.Writer) { w.Unsigned(1, 2) }, api.ErrRange},
		"unsigned of 62, one above": {func(w *bitio.Writer) { w.Unsigned(62, 1<<62) }, api.ErrRange},
		"unsigned, negative":        {func(w *bitio.Writer) { w.Unsigned(63, -1) }, api.ErrRange},
		"unsigned, least number":    {func(w *bitio.Writer) { w.Unsigned(63, math.MinInt) }, api.ErrRange},
		"signed of 0":               {func(w *bitio.Writer) { w.Signed(0, 0) }, api.ErrArg},
		"signed of 1":               {func(w *bitio.Writer) { w.Signed(1, 0) }, api.ErrArg},
		"signed of 64":              {func(w *bitio.Writer) { w.Signed(64, 0) }, api.ErrArg},
		"signed of least":           {func(w *bitio.Writer) { w.Signed(math.MinInt, 0) }, api.ErrArg},
		"signed of most":            {func(w *bitio.Writer) { w.Signed(math.MaxInt, math.MaxInt) }, api.ErrArg},
		"signed, one above":         {func(w *bitio.Writer) { w.Signed(2, 2) }, api.ErrRange},
		"signed, one below":         {func(w *bitio.Writer) { w.Signed(2, -3) }, api.ErrRange},
		"signed of 63, one above":   {func(w *bitio.Writer) { w.Signed(63, 1<<62) }, api.ErrRange},
		"signed of 63, one below":   {func(w *bitio.Writer) { w.Signed(63, -1<<62-1) }, api.ErrRange},
		"signed of 63, least":       {func(w *bitio.Writer) { w.Signed(63, math.MinInt) }, api.ErrRange},
		"signed of 63, most":        {func(w *bitio.Writer) { w.Signed(63, math.MaxInt) }, api.ErrRange},
		"limit 0":                   {func(w *bitio.Writer) { w.Text(0, "") }, api.ErrArg},
		"limit 0, too long":         {func(w *bitio.Writer) { w.Text(0, "a") }, api.ErrArg},
		"limit -1":                  {func(w *bitio.Writer) { w.Text(-1, "a") }, api.ErrArg},
		"limit 4096":                {func(w *bitio.Writer) { w.Text(4096, "") }, api.ErrArg},
		"least limit":               {func(w *bitio.Writer) { w.Text(math.MinInt, "a") }, api.ErrArg},
		"most limit":                {func(w *bitio.Writer) { w.Text(math.MaxInt, "a") }, api.ErrArg},
	} {
		w := bitio.NewWriter()
		w.Unsigned(3, 5)
		c.write(w)
		if got := see(w); got != (written{3, "", c.want}) {
			t.Errorf("%s: %+v, want the error %d", name, got, c.want)
		}
	}
}

func TestWriterKeepsItsFirstError(t *testing.T) {
	w := bitio.NewWriter()
	w.Flag(true)
	w.Unsigned(2, 4)
	w.Unsigned(0, 0)
	w.Unsigned(8, 1)
	w.Signed(8, 1)
	w.Flag(true)
	w.Text(1, "ab")
	w.Text(1, "a")
	if got := see(w); got != (written{1, "", api.ErrRange}) {
		t.Errorf("%+v", got)
	}
}

// fill returns a writer that has written n bits.
func fill(n int) *bitio.Writer {
	w := bitio.NewWriter()
	for range n / 32 {
		w.Unsigned(32, 0xffffffff)
	}
	for range n % 32 {
		w.Flag(true)
	}
	return w
}

func TestWriterTakesTheMostBits(t *testing.T) {
	const most = 8 * api.MaxData
	full := strings.Repeat("\xff", api.MaxData)
	w := fill(most)
	if got := see(w); got != (written{most, full, api.OK}) {
		t.Errorf("%d bits, %d bytes, error %d", got.bits, len(got.data), got.err)
	}
	for name, c := range map[string]struct {
		room  int
		write func(w *bitio.Writer)
		want  api.Errno
	}{
		"a flag, no room":                {0, func(w *bitio.Writer) { w.Flag(false) }, api.ErrTooLarge},
		"a flag":                         {1, func(w *bitio.Writer) { w.Flag(true) }, api.OK},
		"unsigned, no room":              {62, func(w *bitio.Writer) { w.Unsigned(63, math.MaxInt) }, api.ErrTooLarge},
		"unsigned":                       {63, func(w *bitio.Writer) { w.Unsigned(63, math.MaxInt) }, api.OK},
		"signed, no room":                {4, func(w *bitio.Writer) { w.Signed(5, -1) }, api.ErrTooLarge},
		"signed":                         {5, func(w *bitio.Writer) { w.Signed(5, -1) }, api.OK},
		"a text, no room for its length": {1, func(w *bitio.Writer) { w.Text(3, "") }, api.ErrTooLarge},
		"a text, no room for its end":    {25, func(w *bitio.Writer) { w.Text(3, "\xff\xff\xff") }, api.ErrTooLarge},
		"a text":                         {26, func(w *bitio.Writer) { w.Text(3, "\xff\xff\xff") }, api.OK},
		"width, no room":                 {0, func(w *bitio.Writer) { w.Unsigned(64, 0) }, api.ErrArg},
		"number, no room":                {0, func(w *bitio.Writer) { w.Signed(4, 8) }, api.ErrRange},
	} {
		w := fill(most - c.room)
		c.write(w)
		want := written{most, full, api.OK}
		if c.want != api.OK {
			want = written{most - c.room, "", c.want}
		}
		if got := see(w); got != want {
			t.Errorf("%s: %d bits, %d bytes, error %d", name, got.bits, len(got.data), got.err)
		}
	}
}

func TestWriterGoesOnAfterBytes(t *testing.T) {
	w := bitio.NewWriter()
	w.Unsigned(4, 0xa)
	first := see(w)
	if again := see(w); first != again || first != (written{4, "\xa0", api.OK}) {
		t.Errorf("%+v, then %+v", first, again)
	}
	w.Unsigned(8, 0xbc)
	if got := see(w); got != (written{12, "\xab\xc0", api.OK}) || first.data != "\xa0" {
		t.Errorf("%+v, before %+v", got, first)
	}
	if got := see(bitio.NewWriter()); got != (written{}) {
		t.Errorf("writers are not independent: %+v", got)
	}
}
