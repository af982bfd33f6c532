package fragment_test

import (
	"math"
	"slices"
	"testing"

	"hopmesh/api"
	"hopmesh/fragment"
)

const lastSlot = 109951162

// receiver returns a receiver with a hold.
func receiver(t *testing.T, hold int) *fragment.Receiver {
	t.Helper()
	r, e := fragment.NewReceiver(hold)
	if r == nil || e != api.OK {
		t.Fatalf("hold %d: error %d", hold, e)
	}
	return r
}

// expect receives a fragment, and fails if the result is another one.
func expect(t *testing.T, r *fragment.Receiver, slot int, f api.Fragment, data string, done bool, err api.Errno) {
	t.Helper()
	if d, ok, e := r.Receive(slot, f); d != data || ok != done || e != err {
		t.Errorf("%v in slot %d: %q, %v, error %d; want %q, %v, error %d", f, slot, d, ok, e, data, done, err)
	}
}

// waits receives a fragment by which nothing is delivered.
func waits(t *testing.T, r *fragment.Receiver, slot int, f api.Fragment) {
	t.Helper()
	expect(t, r, slot, f, "", false, api.OK)
}

// refuses receives a fragment that is refused.
func refuses(t *testing.T, r *fragment.Receiver, slot int, f api.Fragment, err api.Errno) {
	t.Helper()
	expect(t, r, slot, f, "", false, err)
}

// holds fails if a receiver has other tags, or other parts of them.
func holds(t *testing.T, r *fragment.Receiver, want map[int]int) {
	t.Helper()
	var tags []int
	for tag := range 256 {
		bitmap, known := want[tag]
		err := api.ErrNotFound
		if known {
			tags, err = append(tags, tag), api.OK
		}
		if b, e := r.Bitmap(tag); b != bitmap || e != err {
			t.Errorf("tag %d: bitmap %b, error %d; want %b, error %d", tag, b, e, bitmap, err)
		}
	}
	if got := r.Tags(); !slices.Equal(got, tags) {
		t.Errorf("tags %v, want %v", got, tags)
	}
}

// only returns a datagram of one part.
func only(tag int, data string) api.Fragment {
	return api.Fragment{Tag: tag, Count: 1, Size: len(data), Data: data}
}

// part returns the first fragment of two.
func part(tag int) api.Fragment { return api.Fragment{Tag: tag, Count: 2, Size: 3, Data: "ab"} }

// end returns the second fragment of two.
func end(tag int) api.Fragment {
	return api.Fragment{Tag: tag, Index: 1, Count: 2, Size: 3, Data: "c"}
}

func TestNewReceiver(t *testing.T) {
	for _, hold := range []int{0, 1, 4095, 4096} {
		holds(t, receiver(t, hold), nil)
	}
	for _, hold := range []int{-1, 4097, math.MinInt, math.MaxInt} {
		if r, e := fragment.NewReceiver(hold); r != nil || e != api.ErrRange {
			t.Errorf("hold %d: %v, error %d", hold, r, e)
		}
	}
}

func TestTheExampleIsReceived(t *testing.T) {
	r, l := receiver(t, 10), example()
	waits(t, r, 1, l[0])
	waits(t, r, 2, l[2])
	holds(t, r, map[int]int{7: 5})
	if missing, e := fragment.Missing(3, 5); !slices.Equal(missing, []int{1}) || e != api.OK {
		t.Errorf("missing %v, error %d", missing, e)
	}
	expect(t, r, 3, l[1], "abcde", true, api.OK)
	holds(t, r, map[int]int{7: 7})
}

// orders returns all orders of the numbers from 0 to n - 1.
func orders(n int) [][]int {
	if n == 0 {
		return [][]int{nil}
	}
	var l [][]int
	for _, order := range orders(n - 1) {
		for at := range n {
			l = append(l, slices.Insert(slices.Clone(order), at, n-1))
		}
	}
	return l
}

// In whatever order, each fragment twice: only the one that completes the datagram delivers it.
func TestEveryOrder(t *testing.T) {
	for n := 1; n <= 5; n++ {
		data := text(3*n - 1)
		l := divide(200, data, 3)
		for _, order := range orders(n) {
			r, bitmap := receiver(t, 0), 0
			for i, index := range order {
				bitmap |= 1 << index
				if i == n-1 {
					expect(t, r, 5, l[index], data, true, api.OK)
				} else {
					waits(t, r, 5, l[index])
				}
				waits(t, r, 5, l[index])
				if b, e := r.Bitmap(200); b != bitmap || e != api.OK {
					t.Errorf("%v: bitmap %b, error %d", order, b, e)
				}
			}
			for _, index := range order {
				waits(t, r, 5, l[index])
			}
		}
	}
}

func TestThe32Parts(t *testing.T) {
	data := text(3840)
	l, r := divide(0, data, 120), receiver(t, 4096)
	for i := 31; i > 0; i-- {
		waits(t, r, 31-i, l[i])
	}
	holds(t, r, map[int]int{0: 1<<32 - 2})
	expect(t, r, 31, l[0], data, true, api.OK)
	holds(t, r, map[int]int{0: 1<<32 - 1})
}

func TestOnePart(t *testing.T) {
	r := receiver(t, 3)
	expect(t, r, 0, only(5, "x"), "x", true, api.OK)
	expect(t, r, 0, only(0, text(120)), text(120), true, api.OK)
	waits(t, r, 0, only(5, "x"))
	holds(t, r, map[int]int{0: 1, 5: 1})
}

func TestBytesThatEqualZeros(t *testing.T) {
	r, zeros := receiver(t, 3), string(make([]byte, 5))
	l := divide(5, zeros, 2)
	waits(t, r, 0, l[1])
	holds(t, r, map[int]int{5: 2})
	waits(t, r, 0, l[1])
	waits(t, r, 0, l[2])
	expect(t, r, 0, l[0], zeros, true, api.OK)
}

func TestSlotsDoNotDecrease(t *testing.T) {
	r := receiver(t, 100)
	refuses(t, r, -1, part(1), api.ErrOrder)
	refuses(t, r, math.MinInt, part(1), api.ErrOrder)
	refuses(t, r, lastSlot+1, part(1), api.ErrOrder)
	refuses(t, r, math.MaxInt, part(1), api.ErrOrder)
	holds(t, r, nil)
	waits(t, r, 0, part(1))
	waits(t, r, 10, part(2))
	waits(t, r, 10, part(3))
	refuses(t, r, 9, end(1), api.ErrOrder)
	refuses(t, r, 9, part(4), api.ErrOrder)
	refuses(t, r, 9, part(1), api.ErrOrder)
	refuses(t, r, lastSlot+1, end(1), api.ErrOrder)
	holds(t, r, map[int]int{1: 1, 2: 1, 3: 1})
	waits(t, r, lastSlot, part(4))
	holds(t, r, map[int]int{4: 1})
	refuses(t, r, lastSlot+1, end(4), api.ErrOrder)
	refuses(t, r, lastSlot-1, end(4), api.ErrOrder)
	expect(t, r, lastSlot, end(4), "abc", true, api.OK)
}

func TestWhatIsJustForgotten(t *testing.T) {
	for _, hold := range []int{0, 1, 2, 100, 4095, 4096} {
		for _, first := range []int{0, 1, 5000} {
			r := receiver(t, hold)
			waits(t, r, first, part(1))
			waits(t, r, first+hold, part(2))
			holds(t, r, map[int]int{1: 1, 2: 1})
			waits(t, r, first+hold+1, part(3))
			want := map[int]int{2: 1, 3: 1}
			if hold == 0 {
				want = map[int]int{3: 1}
			}
			holds(t, r, want)

			r = receiver(t, hold)
			waits(t, r, first, part(1))
			expect(t, r, first+hold, end(1), "abc", true, api.OK)
			waits(t, r, first+2*hold, end(1))
			holds(t, r, map[int]int{1: 3})
			waits(t, r, first+3*hold+1, end(1))
			holds(t, r, map[int]int{1: 2})
			expect(t, r, first+3*hold+1, part(1), "abc", true, api.OK)
		}
	}
}

// What was forgotten may come again with other numbers and data.
func TestANewDatagramWithAnOldTag(t *testing.T) {
	r := receiver(t, 5)
	expect(t, r, 0, only(1, "abc"), "abc", true, api.OK)
	refuses(t, r, 5, only(1, "xyz"), api.ErrMismatch)
	expect(t, r, 6, only(1, "xyz"), "xyz", true, api.OK)
	waits(t, r, 12, part(1))
	refuses(t, r, 17, only(1, "xyz"), api.ErrMismatch)
	expect(t, r, 18, only(1, "xyz"), "xyz", true, api.OK)
	holds(t, r, map[int]int{1: 1})
}

// A fragment that is repeated keeps its datagram, one that is refused does not.
func TestWhatKeepsADatagram(t *testing.T) {
	r := receiver(t, 5)
	waits(t, r, 0, part(1))
	waits(t, r, 0, part(2))
	waits(t, r, 4, part(1))
	refuses(t, r, 4, only(2, "x"), api.ErrMismatch)
	waits(t, r, 6, part(3))
	holds(t, r, map[int]int{1: 1, 3: 1})
	waits(t, r, 9, part(3))
	holds(t, r, map[int]int{1: 1, 3: 1})
	waits(t, r, 10, part(3))
	holds(t, r, map[int]int{3: 1})
}

// mismatch refuses a fragment of a datagram, and fails if that changes what is there.
func mismatch(t *testing.T, first, second api.Fragment, bitmap int) {
	t.Helper()
	r := receiver(t, 9)
	if _, _, e := r.Receive(3, first); e != api.OK {
		t.Fatalf("%v: error %d", first, e)
	}
	refuses(t, r, 4, second, api.ErrMismatch)
	holds(t, r, map[int]int{1: bitmap})
	waits(t, r, 4, first)
}

func TestFragmentsThatDiffer(t *testing.T) {
	for _, x := range []struct {
		first, second api.Fragment
		bitmap        int
	}{
		// the count, and with it the part length
		{api.Fragment{Tag: 1, Index: 2, Count: 3, Size: 5, Data: "e"}, api.Fragment{Tag: 1, Index: 1, Count: 2, Size: 5, Data: "e"}, 4},
		{api.Fragment{Tag: 1, Index: 0, Count: 3, Size: 5, Data: "ab"}, only(1, "abcde"), 1},
		{only(1, "abcde"), api.Fragment{Tag: 1, Index: 1, Count: 3, Size: 5, Data: "cd"}, 1},
		// the size alone
		{api.Fragment{Tag: 1, Index: 0, Count: 3, Size: 5, Data: "ab"}, api.Fragment{Tag: 1, Index: 0, Count: 3, Size: 6, Data: "ab"}, 1},
		{api.Fragment{Tag: 1, Index: 2, Count: 3, Size: 6, Data: "ef"}, api.Fragment{Tag: 1, Index: 1, Count: 3, Size: 5, Data: "cd"}, 4},
		{api.Fragment{Tag: 1, Index: 2, Count: 3, Size: 6, Data: "ef"}, api.Fragment{Tag: 1, Index: 2, Count: 3, Size: 5, Data: "e"}, 4},
		{only(1, "abcde"), only(1, "abcd"), 1},
		// the part length alone
		{api.Fragment{Tag: 1, Index: 0, Count: 2, Size: 9, Data: "abcde"}, api.Fragment{Tag: 1, Index: 1, Count: 2, Size: 9, Data: "ghi"}, 1},
		{api.Fragment{Tag: 1, Index: 1, Count: 2, Size: 9, Data: "ghi"}, api.Fragment{Tag: 1, Index: 0, Count: 2, Size: 9, Data: "abcde"}, 2},
		{api.Fragment{Tag: 1, Index: 1, Count: 2, Size: 9, Data: "ghi"}, api.Fragment{Tag: 1, Index: 1, Count: 2, Size: 9, Data: "fghi"}, 2},
		{api.Fragment{Tag: 1, Index: 0, Count: 2, Size: 9, Data: "abcde"}, api.Fragment{Tag: 1, Index: 0, Count: 2, Size: 9, Data: "abcdef"}, 1},
		// the data
		{only(1, "abcde"), only(1, "abcdx"), 1},
		{only(1, "\x00"), only(1, "\x01"), 1},
		{api.Fragment{Tag: 1, Index: 1, Count: 3, Size: 5, Data: "cd"}, api.Fragment{Tag: 1, Index: 1, Count: 3, Size: 5, Data: "xd"}, 2},
		{api.Fragment{Tag: 1, Index: 2, Count: 3, Size: 5, Data: "e"}, api.Fragment{Tag: 1, Index: 2, Count: 3, Size: 5, Data: "E"}, 4},
	} {
		mismatch(t, x.first, x.second, x.bitmap)
	}
}

func TestFragmentsThatDifferBehindADelivery(t *testing.T) {
	r, l := receiver(t, 5), example()
	waits(t, r, 0, l[0])
	waits(t, r, 0, l[1])
	expect(t, r, 0, l[2], "abcde", true, api.OK)
	for i := range l {
		refuses(t, r, 1, with(l[i], func(f *api.Fragment) { f.Data = "xyz"[:len(f.Data)] }), api.ErrMismatch)
	}
	refuses(t, r, 1, only(7, "abcde"), api.ErrMismatch)
	refuses(t, r, 1, with(l[0], func(f *api.Fragment) { f.Size = 6 }), api.ErrMismatch)
	waits(t, r, 1, l[0])
	holds(t, r, map[int]int{7: 7})
}

// eight receives fragments of eight datagrams in the slots from 0 to 7.
func eight(t *testing.T, hold int) *fragment.Receiver {
	t.Helper()
	r := receiver(t, hold)
	for i := range 8 {
		waits(t, r, i, part(10+i))
	}
	return r
}

func TestTheNinthDatagram(t *testing.T) {
	all := map[int]int{10: 1, 11: 1, 12: 1, 13: 1, 14: 1, 15: 1, 16: 1, 17: 1}
	r := eight(t, 20)
	holds(t, r, all)
	refuses(t, r, 8, part(18), api.ErrFull)
	refuses(t, r, 8, only(18, "x"), api.ErrFull)
	holds(t, r, all)
	refuses(t, r, 7, end(10), api.ErrOrder)
	refuses(t, r, 20, part(18), api.ErrFull)
	expect(t, r, 20, end(17), "abc", true, api.OK)
	refuses(t, r, 20, part(18), api.ErrFull)
	waits(t, r, 21, part(18))
	holds(t, r, map[int]int{11: 1, 12: 1, 13: 1, 14: 1, 15: 1, 16: 1, 17: 3, 18: 1})
	refuses(t, r, 21, part(10), api.ErrFull)
	waits(t, r, 22, part(10))
	refuses(t, r, 22, part(11), api.ErrFull)
	holds(t, r, map[int]int{10: 1, 12: 1, 13: 1, 14: 1, 15: 1, 16: 1, 17: 3, 18: 1})
}

func TestEightCompleteDatagrams(t *testing.T) {
	r := receiver(t, 0)
	for i := range 8 {
		expect(t, r, 4, only(255-i, "x"), "x", true, api.OK)
	}
	refuses(t, r, 4, only(0, "x"), api.ErrFull)
	waits(t, r, 4, only(255, "x"))
	expect(t, r, 5, only(0, "x"), "x", true, api.OK)
	holds(t, r, map[int]int{0: 1})
}

// What is not valid, or comes in a slot that is past, leaves even the time as it was.
func TestErrorsThatChangeNothing(t *testing.T) {
	for name, f := range invalid() {
		r := eight(t, 20)
		refuses(t, r, 5000, f, api.ErrArg)
		refuses(t, r, -1, f, api.ErrArg)
		refuses(t, r, lastSlot+1, f, api.ErrArg)
		refuses(t, r, 6, f, api.ErrArg)
		if got := r.Tags(); len(got) != 8 {
			t.Fatalf("%s: %v", name, got)
		}
		waits(t, r, 7, part(17))
	}
	r := eight(t, 20)
	refuses(t, r, 6, part(18), api.ErrOrder)
	refuses(t, r, 6, only(10, "x"), api.ErrOrder)
	refuses(t, r, lastSlot+1, part(18), api.ErrOrder)
	refuses(t, r, lastSlot+1, only(10, "x"), api.ErrOrder)
	waits(t, r, 7, part(17))
	if got := r.Tags(); len(got) != 8 {
		t.Errorf("%v", got)
	}
}

// A fragment that differs is refused, but the time is its slot, and what is old is forgotten.
func TestWhatARefusedFragmentDoesAllTheSame(t *testing.T) {
	r := eight(t, 5)
	refuses(t, r, 9, only(17, "x"), api.ErrMismatch)
	holds(t, r, map[int]int{14: 1, 15: 1, 16: 1, 17: 1})
	refuses(t, r, 8, end(17), api.ErrOrder)
	refuses(t, r, 12, only(17, "x"), api.ErrMismatch)
	holds(t, r, map[int]int{17: 1})
	expect(t, r, 12, end(17), "abc", true, api.OK)

	r = eight(t, 20)
	refuses(t, r, 19, part(3), api.ErrFull)
	refuses(t, r, 18, end(10), api.ErrOrder)
	expect(t, r, 19, end(10), "abc", true, api.OK)
}

func TestBitmapOfWhatIsNotThere(t *testing.T) {
	r := eight(t, 20)
	for _, tag := range []int{-1, 0, 9, 18, 255, 256, 266, math.MinInt, math.MaxInt} {
		if b, e := r.Bitmap(tag); b != 0 || e != api.ErrNotFound {
			t.Errorf("tag %d: bitmap %b, error %d", tag, b, e)
		}
	}
}

func TestTagsAreInOrder(t *testing.T) {
	r := receiver(t, 3)
	if got := r.Tags(); len(got) != 0 {
		t.Errorf("%v", got)
	}
	for _, tag := range []int{200, 3, 255, 0, 17, 100, 18, 4} {
		waits(t, r, 1, part(tag))
	}
	want := []int{0, 3, 4, 17, 18, 100, 200, 255}
	got := r.Tags()
	if !slices.Equal(got, want) {
		t.Errorf("%v", got)
	}
	clear(got)
	if again := r.Tags(); !slices.Equal(again, want) {
		t.Errorf("a change of a result shows: %v", again)
	}
}

func TestReceiversAreApart(t *testing.T) {
	a, b := receiver(t, 5), receiver(t, 5)
	waits(t, a, 100, part(1))
	holds(t, b, nil)
	waits(t, b, 0, end(1))
	holds(t, a, map[int]int{1: 1})
	holds(t, b, map[int]int{1: 2})
}

func TestAReceiverThatNobodyMade(t *testing.T) {
	var r fragment.Receiver
	holds(t, &r, nil)
	refuses(t, &r, -1, part(1), api.ErrOrder)
	waits(t, &r, 0, part(1))
	expect(t, &r, 0, end(1), "abc", true, api.OK)
}
