package fragment_test

import (
	"fmt"
	"math"
	"math/rand"
	"slices"
	"strings"
	"testing"

	"hopmesh/api"
	"hopmesh/fragment"
)

// text returns a datagram of some bytes, no two near ones of which are equal.
func text(size int) string {
	b := make([]byte, size)
	for i := range b {
		b[i] = byte(i*7 + i/256)
	}
	return string(b)
}

// divide returns the fragments of a datagram, cutting part by part.
func divide(tag int, data string, most int) []api.Fragment {
	var parts []string
	for rest := data; rest != ""; {
		n := min(most, len(rest))
		parts = append(parts, rest[:n])
		rest = rest[n:]
	}
	var l []api.Fragment
	for i, part := range parts {
		l = append(l, api.Fragment{Tag: tag, Index: i, Count: len(parts), Size: len(data), Data: part})
	}
	return l
}

// with returns a fragment that is changed.
func with(f api.Fragment, change func(*api.Fragment)) api.Fragment {
	change(&f)
	return f
}

// example returns the fragments of the example.
func example() []api.Fragment {
	return []api.Fragment{
		{Tag: 7, Index: 0, Count: 3, Size: 5, Data: "ab"},
		{Tag: 7, Index: 1, Count: 3, Size: 5, Data: "cd"},
		{Tag: 7, Index: 2, Count: 3, Size: 5, Data: "e"},
	}
}

// split returns the fragments of a datagram that can be divided.
func split(t *testing.T, tag int, data string, most int) []api.Fragment {
	t.Helper()
	l, e := fragment.Split(tag, data, most)
	if e != api.OK {
		t.Fatalf("tag %d, %d bytes, limit %d: error %d", tag, len(data), most, e)
	}
	return l
}

func TestTheExampleIsSplit(t *testing.T) {
	if l := split(t, 7, "abcde", 2); !slices.Equal(l, example()) {
		t.Errorf("%v", l)
	}
	for _, f := range example() {
		if e := fragment.Check(f); e != api.OK {
			t.Errorf("%v: error %d", f, e)
		}
	}
}

// shapes are the shapes of fragments: the count, the size, the length of the data, and whether it is the last part.
type shapes [33][4096][121][2]bool

// allShapes returns the shapes of all fragments of all datagrams.
func allShapes() *shapes {
	var s shapes
	for size := 1; size <= 4095; size++ {
		for most := 1; most <= 120; most++ {
			count, rest := 1, size
			for rest > most {
				count, rest = count+1, rest-most
			}
			if count > 32 {
				continue
			}
			s[count][size][rest][1] = true
			if count > 1 {
				s[count][size][most][0] = true
			}
		}
	}
	return &s
}

// has says whether there is a fragment with the shape of f.
func (s *shapes) has(f api.Fragment) bool {
	if f.Count < 1 || f.Count > 32 || f.Size < 1 || f.Size > 4095 || len(f.Data) > 120 || f.Index < 0 || f.Index >= f.Count {
		return false
	}
	last := 0
	if f.Index == f.Count-1 {
		last = 1
	}
	return s[f.Count][f.Size][len(f.Data)][last]
}

// A fragment is valid just if it is one of those of some datagram with some limit.
func TestAFragmentIsValidIfADatagramHasIt(t *testing.T) {
	s, data := allShapes(), strings.Repeat("x", 122)
	valid := 0
	for count := range 34 {
		for size := range 4098 {
			for n := range 123 {
				for _, index := range []int{0, count / 2, count - 2, count - 1, count} {
					f := api.Fragment{Tag: size % 256, Index: index, Count: count, Size: size, Data: data[:n]}
					want := api.ErrArg
					if s.has(f) {
						want, valid = api.OK, valid+1
					}
					if e := fragment.Check(f); e != want {
						t.Fatalf("index %d, count %d, size %d, %d bytes: error %d, want %d", index, count, size, n, e, want)
					}
				}
			}
		}
	}
	if valid < 100000 {
		t.Errorf("only %d are valid", valid)
	}
}

func TestCheckAtTheEnds(t *testing.T) {
	long := divide(9, text(3840), 120)
	for name, f := range map[string]api.Fragment{
		"tag 0":                  {Tag: 0, Count: 1, Size: 1, Data: "a"},
		"tag 255":                {Tag: 255, Count: 1, Size: 1, Data: "a"},
		"one part of 120":        {Count: 1, Size: 120, Data: text(120)},
		"the first of 32":        long[0],
		"the 31st of 32":         long[30],
		"the last of 32":         long[31],
		"the greatest size":      divide(0, text(3840), 120)[31],
		"32 parts of a byte":     divide(0, text(32), 1)[31],
		"last part as long":      {Index: 2, Count: 3, Size: 6, Data: "ef"},
		"last part shorter":      {Index: 2, Count: 3, Size: 5, Data: "e"},
		"an inner part of three": {Index: 1, Count: 3, Size: 5, Data: "cd"},
		"bytes above 127":        {Index: 1, Count: 2, Size: 3, Data: "\xff"},
		"two bytes, one rune":    {Index: 0, Count: 2, Size: 3, Data: "\xc3\xa9"},
	} {
		if e := fragment.Check(f); e != api.OK {
			t.Errorf("%s: error %d", name, e)
		}
	}
}

// invalid returns fragments that are not valid.
func invalid() map[string]api.Fragment {
	inner, last, only := example()[0], example()[2], api.Fragment{Count: 1, Size: 5, Data: "abcde"}
	l := map[string]api.Fragment{
		"nothing":                    {},
		"one part of 121":            {Count: 1, Size: 121, Data: text(121)},
		"one part without data":      {Count: 1, Size: 5},
		"one part and size 0":        {Count: 1, Size: 0},
		"one part, data too short":   {Count: 1, Size: 5, Data: "abcd"},
		"one part, data too long":    {Count: 1, Size: 5, Data: "abcdef"},
		"part of 121":                {Index: 0, Count: 2, Size: 200, Data: text(121)},
		"last part of 121":           {Index: 1, Count: 2, Size: 242, Data: text(121)},
		"last part behind 121":       {Index: 1, Count: 2, Size: 122, Data: "a"},
		"first part empty":           {Index: 0, Count: 3, Size: 5},
		"last part empty":            {Index: 2, Count: 3, Size: 4},
		"last part longer":           {Index: 2, Count: 3, Size: 7, Data: "efg"},
		"last part has everything":   {Index: 2, Count: 3, Size: 5, Data: "abcde"},
		"last part has more":         {Index: 2, Count: 3, Size: 5, Data: "abcdefg"},
		"not divisible":              {Index: 2, Count: 3, Size: 6, Data: "e"},
		"not divisible by 31":        {Index: 31, Count: 32, Size: 65, Data: "ab"},
		"part too short":             {Index: 0, Count: 3, Size: 5, Data: "a"},
		"part too long":              {Index: 0, Count: 3, Size: 5, Data: "abc"},
		"part as long as the whole":  {Index: 0, Count: 2, Size: 5, Data: "abcde"},
		"part longer than the whole": {Index: 0, Count: 2, Size: 5, Data: "abcdef"},
		"33 parts":                   {Index: 0, Count: 33, Size: 33, Data: "a"},
		"33 parts, the last":         {Index: 32, Count: 33, Size: 33, Data: "a"},
		"many data":                  {Count: 1, Size: 5, Data: text(5000)},
		"size 4096":                  {Index: 0, Count: 32, Size: 4096, Data: text(128)},
		"size 3841":                  {Index: 0, Count: 32, Size: 3841, Data: text(120)},
	}
	for _, n := range []int{-1, 256, math.MinInt, math.MaxInt} {
		l[fmt.Sprint("tag ", n)] = with(inner, func(f *api.Fragment) { f.Tag = n })
	}
	for _, f := range []api.Fragment{inner, last, only} {
		for _, n := range []int{-1, f.Count, 32, math.MinInt, math.MaxInt} {
			l[fmt.Sprint(f, " with index ", n)] = with(f, func(f *api.Fragment) { f.Index = n })
		}
		for _, n := range []int{-1, 0, 2, 33, math.MinInt, math.MaxInt} {
			l[fmt.Sprint(f, " with count ", n)] = with(f, func(f *api.Fragment) { f.Count = n })
		}
		for _, n := range []int{-5, -1, 0, 1, 2, 4096, math.MinInt, math.MaxInt} {
			l[fmt.Sprint(f, " with size ", n)] = with(f, func(f *api.Fragment) { f.Size = n })
		}
	}
	return l
}

func TestWhatIsNotValid(t *testing.T) {
	for name, f := range invalid() {
		if e := fragment.Check(f); e != api.ErrArg {
			t.Errorf("%s: Check %d", name, e)
		}
		if data, e := fragment.Encode(f); data != "" || e != api.ErrArg {
			t.Errorf("%s: Encode %q, error %d", name, data, e)
		}
	}
}

func TestSplit(t *testing.T) {
	for _, x := range []struct{ tag, size, most, count int }{
		{0, 1, 1, 1}, {255, 1, 120, 1}, {1, 120, 120, 1}, {1, 121, 120, 2}, {1, 119, 120, 1}, {1, 2, 1, 2},
		{1, 32, 1, 32}, {1, 3840, 120, 32}, {1, 3839, 120, 32}, {1, 3721, 120, 32}, {1, 3720, 120, 31}, {1, 64, 2, 32}, {1, 63, 2, 32}, {1, 62, 2, 31},
		{1, 99, 33, 3}, {1, 100, 33, 4}, {1, 98, 33, 3}, {77, 320, 10, 32},
	} {
		l := split(t, x.tag, text(x.size), x.most)
		if len(l) != x.count || !slices.Equal(l, divide(x.tag, text(x.size), x.most)) {
			t.Errorf("%v: %d fragments", x, len(l))
		}
	}
}

func TestSplitErrors(t *testing.T) {
	for _, x := range []struct {
		tag, size, most int
		want            api.Errno
	}{
		{-1, 5, 2, api.ErrRange}, {256, 5, 2, api.ErrRange}, {7, 5, 0, api.ErrRange}, {7, 5, -1, api.ErrRange}, {7, 5, 121, api.ErrRange},
		{math.MinInt, 5, 2, api.ErrRange}, {math.MaxInt, 5, 2, api.ErrRange}, {7, 5, math.MinInt, api.ErrRange}, {7, 5, math.MaxInt, api.ErrRange},
		{-1, 0, 2, api.ErrRange}, {7, 0, 121, api.ErrRange}, {256, 4096, 2, api.ErrRange}, {7, 4096, 0, api.ErrRange}, {7, 5000, 121, api.ErrRange},
		{7, 0, 1, api.ErrEmpty}, {7, 0, 120, api.ErrEmpty}, {0, 0, 2, api.ErrEmpty},
		{7, 4096, 120, api.ErrTooLarge}, {7, 4095, 120, api.ErrTooLarge}, {7, 3841, 120, api.ErrTooLarge}, {7, 33, 1, api.ErrTooLarge}, {7, 65, 2, api.ErrTooLarge}, {7, 1 << 20, 1, api.ErrTooLarge},
	} {
		if l, e := fragment.Split(x.tag, text(x.size), x.most); len(l) != 0 || e != x.want {
			t.Errorf("%v: %d fragments, error %d", x, len(l), e)
		}
	}
}

// Each datagram that has at most 32 parts is divided, and all of its fragments are valid.
func TestSplitOfEachSize(t *testing.T) {
	for size := range 4098 {
		data := text(size)
		for most := 1; most <= 120; most += 1 + size%3 {
			l, e := fragment.Split(size%256, data, most)
			if size == 0 || size > 32*most {
				want := api.ErrTooLarge
				if size == 0 {
					want = api.ErrEmpty
				}
				if len(l) != 0 || e != want {
					t.Fatalf("%d bytes, limit %d: error %d", size, most, e)
				}
				continue
			}
			if e != api.OK || !slices.Equal(l, divide(size%256, data, most)) {
				t.Fatalf("%d bytes, limit %d: %d fragments, error %d", size, most, len(l), e)
			}
			for _, f := range l {
				if fragment.Check(f) != api.OK {
					t.Fatalf("%v is not valid", f)
				}
			}
		}
	}
}

func TestResultsOfSplitAreApart(t *testing.T) {
	one, other := split(t, 7, "abcde", 2), split(t, 7, "abcde", 2)
	for i := range other {
		other[i] = api.Fragment{}
	}
	if !slices.Equal(one, example()) {
		t.Errorf("%v", one)
	}
}

func TestMissing(t *testing.T) {
	all := []int{0, 1, 2, 3, 4, 5, 6, 7, 8, 9, 10, 11, 12, 13, 14, 15, 16, 17, 18, 19, 20, 21, 22, 23, 24, 25, 26, 27, 28, 29, 30, 31}
	for _, x := range []struct {
		count, bitmap int
		want          []int
	}{
		{1, 0, all[:1]}, {1, 1, nil}, {2, 0, all[:2]}, {2, 1, []int{1}}, {2, 2, []int{0}}, {2, 3, nil},
		{3, 5, []int{1}}, {3, 0, all[:3]}, {3, 7, nil}, {4, 8, []int{0, 1, 2}}, {4, 1, []int{1, 2, 3}},
		{31, 0, all[:31]}, {31, 1<<31 - 1, nil}, {32, 0, all}, {32, 1<<32 - 1, nil}, {32, 1 << 31, all[:31]}, {32, 1<<31 - 1, []int{31}}, {32, 1<<32 - 2, []int{0}},
	} {
		if l, e := fragment.Missing(x.count, x.bitmap); !slices.Equal(l, x.want) || e != api.OK {
			t.Errorf("%d, %d: %v, error %d", x.count, x.bitmap, l, e)
		}
	}
}

func TestMissingErrors(t *testing.T) {
	for _, x := range []struct{ count, bitmap int }{
		{0, 0}, {33, 0}, {-1, 0}, {0, 1}, {33, 1}, {64, 0}, {65, 0}, {math.MinInt, 0}, {math.MaxInt, 0},
		{1, 2}, {1, 3}, {2, 4}, {3, 8}, {3, 13}, {31, 1 << 31}, {32, 1 << 32}, {32, 1<<32 + 5}, {32, 1<<33 - 1}, {5, math.MaxInt}, {32, math.MaxInt},
		{1, -1}, {32, -1}, {3, -5}, {32, math.MinInt}, {3, math.MinInt}, {3, math.MinInt + 1},
	} {
		if l, e := fragment.Missing(x.count, x.bitmap); len(l) != 0 || e != api.ErrRange {
			t.Errorf("%d, %d: %v, error %d", x.count, x.bitmap, l, e)
		}
	}
}

func TestMissingOfRandomBitmaps(t *testing.T) {
	r := rand.New(rand.NewSource(4))
	for range 20000 {
		count := 1 + r.Intn(32)
		var want []int
		bitmap := 0
		for i := range count {
			if r.Intn(2) == 0 {
				bitmap += 1 << i
			} else {
				want = append(want, i)
			}
		}
		if l, e := fragment.Missing(count, bitmap); !slices.Equal(l, want) || e != api.OK {
			t.Fatalf("%d, %b: %v, error %d", count, bitmap, l, e)
		}
	}
}
