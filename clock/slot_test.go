package clock_test

import (
	"math"
	"math/rand"
	"testing"

	"hopmesh/api"
	"hopmesh/clock"
)

const lastSlot = api.MaxSlot

func TestBegin(t *testing.T) {
	for _, c := range []struct {
		c          api.Clock
		slot, want int
		e          api.Errno
	}{
		{of(5, -100000), 0, 0, api.OK}, {of(5, -100000), 1, 9996, api.OK}, {of(5, -100000), 2, 19997, api.OK},
		{of(0, 0), 0, 0, api.OK}, {of(0, 0), 1, 10000, api.OK}, {of(0, 0), 2, 20000, api.OK}, {of(0, 0), lastSlot, lastSlot * 10000, api.OK}, {of(0, 100000), 1, 10000, api.OK}, {of(0, -100000), 1, 10002, api.OK},
		{of(-7, 0), 0, 7, api.OK}, {of(-7, 0), 1, 10007, api.OK}, {of(7, 0), 0, 0, api.OK}, {of(7, 0), 1, 9993, api.OK}, {of(9999, 0), 1, 1, api.OK}, {of(10000, 0), 1, 0, api.OK}, {of(25000, 0), 2, 0, api.OK}, {of(25000, 0), 3, 5000, api.OK},
		{of(mostShift, 0), lastSlot, 0, api.OK}, {of(-mostShift, 0), 0, mostTime, api.OK}, {of(-mostShift, 0), 1, 0, api.ErrLate}, {of(-mostShift, -1), 0, 0, api.ErrLate}, {of(-mostShift, 1), 0, mostTime - 1099, api.OK},
		{of(0, -100000), lastSlot, 0, api.ErrLate}, {of(-7776, 0), lastSlot, mostTime, api.OK}, {of(-7777, 0), lastSlot, 0, api.ErrLate}, {of(-7777, 0), lastSlot - 1, mostTime - 9999, api.OK},
		{of(0, 0), -1, 0, api.ErrRange}, {of(0, 0), lastSlot + 1, 0, api.ErrRange}, {of(mostShift, 0), lastSlot + 1, 0, api.ErrRange}, {of(mostShift, mostDrift), lastSlot + 1, 0, api.ErrRange}, {of(-mostShift, 0), lastSlot + 1, 0, api.ErrRange}, {of(0, 0), math.MinInt, 0, api.ErrRange}, {of(0, 0), math.MaxInt, 0, api.ErrRange},
	} {
		if got, e := clock.Begin(c.c, c.slot); got != c.want || e != c.e {
			t.Errorf("slot %d of %v begins at %d, error %d, want %d, error %d", c.slot, c.c, got, e, c.want, c.e)
		}
	}
}

func TestSend(t *testing.T) {
	for _, c := range []struct {
		c          api.Clock
		slot, want int
		e          api.Errno
	}{
		{of(0, 0), 0, 2120, api.OK}, {of(0, 0), 1, 12120, api.OK}, {of(0, 0), lastSlot, lastSlot*10000 + 2120, api.OK}, {of(40, 0), 1, 12080, api.OK}, {of(5, -100000), 1, 12117, api.OK}, {of(0, 100000), 1, 12119, api.OK}, {of(0, -100000), 1, 12122, api.OK},
		{of(-7, 0), 0, 2127, api.OK}, {of(2119, 0), 0, 1, api.OK}, {of(2120, 0), 0, 0, api.OK}, {of(2121, 0), 0, 0, api.OK}, {of(mostShift, 0), lastSlot - 1, 0, api.OK},
		{of(-5656, 0), lastSlot, mostTime, api.OK}, {of(-5657, 0), lastSlot, 0, api.ErrLate}, {of(-5657, 0), lastSlot - 1, mostTime - 9999, api.OK}, {of(-mostShift, 0), 0, 0, api.ErrLate}, {of(2120-mostShift, 0), 0, mostTime, api.OK}, {of(2119-mostShift, 0), 0, 0, api.ErrLate},
		{of(0, 0), -1, 0, api.ErrRange}, {of(0, 0), lastSlot + 1, 0, api.ErrRange}, {of(mostShift, 0), lastSlot + 1, 0, api.ErrRange}, {of(mostShift, 0), -1, 0, api.ErrRange}, {of(-mostShift, 0), lastSlot + 1, 0, api.ErrRange}, {of(0, 0), math.MinInt, 0, api.ErrRange}, {of(0, 0), math.MaxInt, 0, api.ErrRange},
	} {
		if got, e := clock.Send(c.c, c.slot); got != c.want || e != c.e {
			t.Errorf("%v sends at %d in slot %d, error %d, want %d, error %d", c.c, got, c.slot, e, c.want, c.e)
		}
	}
}

func TestWindow(t *testing.T) {
	for _, c := range []struct {
		c                 api.Clock
		slot, first, last int
		e                 api.Errno
	}{
		{of(0, 0), 0, 1020, 3220, api.OK}, {of(0, 0), 1, 11020, 13220, api.OK}, {of(0, 0), lastSlot, lastSlot*10000 + 1020, lastSlot*10000 + 3220, api.OK}, {of(40, 0), 1, 10980, 13180, api.OK}, {of(-40, 0), 1, 11060, 13260, api.OK},
		{of(0, 100000), 0, 1020, 3220, api.OK}, {of(0, 100000), 1, 11019, 13219, api.OK}, {of(0, -100000), 0, 1021, 3221, api.OK}, {of(0, -100000), 1, 11022, 13222, api.OK}, {of(3221, 0), 1, 7799, 9999, api.OK}, {of(-3220, 100000), 1, 14239, 16439, api.OK},
		{of(0, -100000), 2, 21023, 23223, api.OK},
		// a window that is open at the time 0
		{of(1019, 0), 0, 1, 2201, api.OK}, {of(1020, 0), 0, 0, 2200, api.OK}, {of(1021, 0), 0, 0, 2199, api.OK}, {of(2120, 0), 0, 0, 1100, api.OK}, {of(3219, 0), 0, 0, 1, api.OK}, {of(3220, 0), 0, 0, 0, api.OK}, {of(3220, -100000), 0, 0, 1, api.OK},
		// a window that is over at the time 0
		{of(3221, 0), 0, 0, -1, api.OK}, {of(3221, -100000), 0, 0, -1, api.OK}, {of(13220, 0), 1, 0, 0, api.OK}, {of(13221, 0), 1, 0, -1, api.OK}, {of(mostShift, 0), 0, 0, -1, api.OK}, {of(mostShift, mostDrift), lastSlot - 1, 0, -1, api.OK},
		// a window that ends near the last time
		{of(-4555, 0), lastSlot, mostTime - 2201, mostTime - 1, api.OK}, {of(-4556, 0), lastSlot, 0, 0, api.ErrLate}, {of(-4557, 0), lastSlot, 0, 0, api.ErrLate}, {of(-4556, 0), lastSlot - 1, mostTime - 12200, mostTime - 10000, api.OK},
		{of(3221-mostShift, 0), 0, mostTime - 2201, mostTime - 1, api.OK}, {of(3220-mostShift, 0), 0, 0, 0, api.ErrLate}, {of(1020-mostShift, 0), 0, 0, 0, api.ErrLate}, {of(-mostShift, 0), 0, 0, 0, api.ErrLate}, {of(0, -100000), lastSlot, 0, 0, api.ErrLate},
		{of(0, 0), -1, 0, 0, api.ErrRange}, {of(0, 0), lastSlot + 1, 0, 0, api.ErrRange}, {of(mostShift, 0), lastSlot + 1, 0, 0, api.ErrRange}, {of(mostShift, 0), -1, 0, 0, api.ErrRange}, {of(-mostShift, 0), lastSlot + 1, 0, 0, api.ErrRange}, {of(0, 0), math.MinInt, 0, 0, api.ErrRange}, {of(0, 0), math.MaxInt, 0, 0, api.ErrRange},
	} {
		if first, last, e := clock.Window(c.c, c.slot); first != c.first || last != c.last || e != c.e {
			t.Errorf("the window of slot %d of %v goes from %d to %d, error %d, want %d, %d, error %d", c.slot, c.c, first, last, e, c.first, c.last, c.e)
		}
	}
}

func TestSlot(t *testing.T) {
	for _, c := range []struct {
		c       api.Clock
		t, want int
		e       api.Errno
	}{
		{of(0, 0), 0, 0, api.OK}, {of(0, 0), 1, 0, api.OK}, {of(0, 0), 9999, 0, api.OK}, {of(0, 0), 10000, 1, api.OK}, {of(0, 0), 19999, 1, api.OK}, {of(0, 0), 20000, 2, api.OK}, {of(0, 0), mostTime, lastSlot, api.OK},
		{of(-7, 0), 0, 0, api.ErrEmpty}, {of(-7, 0), 6, 0, api.ErrEmpty}, {of(-7, 0), 7, 0, api.OK}, {of(-7, 0), 10006, 0, api.OK}, {of(-7, 0), 10007, 1, api.OK}, {of(-10000, 0), 0, 0, api.ErrEmpty}, {of(-20001, 0), 20000, 0, api.ErrEmpty},
		{of(5, -100000), 9995, 0, api.OK}, {of(5, -100000), 9996, 1, api.OK}, {of(0, 100000), 9999, 0, api.OK}, {of(0, 100000), 10000, 1, api.OK}, {of(0, -100000), 10001, 0, api.OK}, {of(0, -100000), 10002, 1, api.OK}, {of(0, -100000), 1, 0, api.OK}, {of(-1, 100000), 0, 0, api.ErrEmpty}, {of(-1, 100000), 1, 0, api.OK}, {of(-1, -100000), 1, 0, api.ErrEmpty},
		{of(mostShift, 0), 0, lastSlot, api.OK}, {of(mostShift, 0), mostTime, 2 * mostTime / 10000, api.OK}, {of(mostShift, 100000), mostTime, (2*mostTime + 109951162) / 10000, api.OK}, {of(-mostShift, 0), mostTime, 0, api.OK}, {of(-mostShift, 0), mostTime - 1, 0, api.ErrEmpty}, {of(-mostShift, -100000), mostTime, 0, api.ErrEmpty},
	} {
		if got, e := clock.Slot(c.c, c.t); got != c.want || e != c.e {
			t.Errorf("%v shows a time of slot %d at %d, error %d, want %d, error %d", c.c, got, c.t, e, c.want, c.e)
		}
	}
}

func TestSlotsOfSomeClocks(t *testing.T) {
	r := rand.New(rand.NewSource(3))
	seen := map[string]int{}
	for range 5000 {
		c, slot := of(some(r, -mostShift, mostShift), some(r, -mostDrift, mostDrift)), some(r, 0, lastSlot-1)
		if r.Intn(2) == 0 {
			slot = max(0, min(lastSlot-1, c.Offset/10000+r.Intn(5)-2))
		}
		begin, e := clock.Begin(c, slot)
		next, f := clock.Begin(c, slot+1)
		if e != api.OK || f != api.OK {
			if f != api.ErrLate || longShow(c, mostTime) >= (slot+1)*10000 {
				t.Fatalf("slot %d of %v: errors %d and %d", slot, c, e, f)
			}
			seen["late"]++
			continue
		}
		if begin >= next && (next != 0 || begin != 0 || c.Offset < (slot+1)*10000) {
			t.Fatalf("slots %d of %v begin at %d and %d", slot, c, begin, next)
		}
		if got, e := clock.Slot(c, begin); begin > 0 && (got != slot || e != api.OK) {
			t.Fatalf("%v shows a time of slot %d at the beginning of slot %d, error %d", c, got, slot, e)
		}
		send, e := clock.Send(c, slot)
		first, last, f := clock.Window(c, slot)
		if e != api.OK || f != api.OK {
			t.Fatalf("%v ends slot %d by itself, but errors %d and %d", c, slot, e, f)
		}
		end := slot*10000 + 3220
		if c.Offset > end {
			seen["over"]++
			if send != 0 || first != 0 || last != -1 {
				t.Fatalf("slot %d of %v is over: %d, window from %d to %d", slot, c, send, first, last)
			}
			continue
		}
		seen["open"]++
		if send < first || send > last || longShow(c, last) > end || longShow(c, last+1) <= end || longShow(c, first) < slot*10000+1020 || first > 0 && longShow(c, first-1) >= slot*10000+1020 {
			t.Fatalf("%v sends at %d in slot %d, window from %d to %d", c, send, slot, first, last)
		}
	}
	if seen["late"] < 100 || seen["over"] < 100 || seen["open"] < 100 {
		t.Errorf("seen: %v", seen)
	}
}

func TestWindowNextToASearchOverAllTimes(t *testing.T) {
	for _, drift := range []int{0, 1, -1, mostDrift, -mostDrift} {
		for _, offset := range []int{-5, 0, 700, 1020, 2120, 3219, 3220, 3221, 9000, 13220, 13221, 30000} {
			c := of(offset, drift)
			for slot := range 3 {
				first, last := -1, -1
				for time := range 40000 {
					shown := longShow(c, time)
					if first < 0 && shown >= slot*10000+1020 {
						first = time
					}
					if shown <= slot*10000+3220 {
						last = time
					}
				}
				if from, to, e := clock.Window(c, slot); from != first || to != last || e != api.OK {
					t.Fatalf("the window of slot %d of %v goes from %d to %d, error %d, want %d, %d", slot, c, from, to, e, first, last)
				}
			}
		}
	}
}
