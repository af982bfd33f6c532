package timesync_test

import (
	"math"
	"slices"
	"testing"

	"hopmesh/api"
	"hopmesh/timesync"
)

const (
	mostTime  = api.MaxTime
	mostDrift = api.MaxDrift
	lastSlot  = api.MaxSlot
	mostCount = api.MaxRun
	mostShift = 1 << 40
)

// of returns a clock.
func of(offset, drift int) api.Clock { return api.Clock{Offset: offset, Drift: drift} }

// state returns a state.
func state(offset, drift, slot, count int) api.Synced {
	return api.Synced{Clock: of(offset, drift), Slot: slot, Count: count}
}

// never returns the state of a clock that was never corrected.
func never(offset, drift int) api.Synced { return state(offset, drift, -1, 0) }

// badClocks returns clocks that are not valid.
func badClocks() []api.Clock {
	return []api.Clock{of(mostShift+1, 0), of(-mostShift-1, 0), of(0, mostDrift+1), of(0, -mostDrift-1), of(math.MaxInt, math.MinInt), of(math.MinInt, math.MaxInt)}
}

// bad returns states that are not valid.
func bad() []api.Synced {
	l := []api.Synced{
		// a Count without a Slot, and a Slot without a Count
		state(0, 0, -1, 1), state(0, 0, -1, mostCount), state(0, 0, 0, 0), state(0, 0, 5, 0), state(0, 0, lastSlot, 0), {},
		state(0, 0, -2, 0), state(0, 0, -2, 1), state(0, 0, lastSlot+1, 1), state(0, 0, lastSlot+1, 0), state(0, 0, math.MinInt, 0), state(0, 0, math.MinInt, 1), state(0, 0, math.MaxInt, 1),
		state(0, 0, -1, -1), state(0, 0, 0, -1), state(0, 0, 5, -1), state(0, 0, 5, mostCount+1), state(0, 0, -1, mostCount+1), state(0, 0, 5, math.MinInt), state(0, 0, 5, math.MaxInt), state(0, 0, -1, math.MinInt), state(0, 0, -1, math.MaxInt),
	}
	for _, c := range badClocks() {
		l = append(l, api.Synced{Clock: c, Slot: -1}, api.Synced{Clock: c, Slot: 5, Count: 1})
	}
	return l
}

func TestExample(t *testing.T) {
	if got, e := timesync.Measure(of(40, 0), 1, 12120); got != 40 || e != api.OK {
		t.Errorf("difference %d, error %d", got, e)
	}
	if got, e := timesync.Hear(never(40, 0), 1, 12120); got != state(0, 0, 1, 1) || e != api.OK {
		t.Errorf("heard: %v, error %d", got, e)
	}
	if got, e := timesync.Measure(of(0, 0), 1, 12080); got != -40 || e != api.OK {
		t.Errorf("difference %d, error %d", got, e)
	}
	if got, e := timesync.Acked(never(40, 0), 1, -40); got != state(0, 0, 1, 1) || e != api.OK {
		t.Errorf("acknowledged: %v, error %d", got, e)
	}
	for _, acked := range []bool{false, true} {
		l := []api.Synced{never(0, 0), never(40, 0)}
		got, i, e := timesync.Run(l, []int{-1, 0}, []api.Sync{{Node: 1, Slot: 1, Acked: acked}})
		if !slices.Equal(got, []api.Synced{never(0, 0), state(0, 0, 1, 1)}) || i != -1 || e != api.OK {
			t.Errorf("acknowledged %t: %v, %d, error %d", acked, got, i, e)
		}
	}
}

func TestCheck(t *testing.T) {
	for _, s := range []api.Synced{
		never(0, 0), never(mostShift, mostDrift), never(-mostShift, -mostDrift),
		state(0, 0, 0, 1), state(0, 0, 0, mostCount), state(0, 0, 1, 1), state(0, 0, lastSlot, 1), state(0, 0, lastSlot, mostCount), state(mostShift, -mostDrift, lastSlot, mostCount), state(-mostShift, mostDrift, 0, 2),
	} {
		if e := timesync.Check(s); e != api.OK {
			t.Errorf("%v: error %d", s, e)
		}
	}
	for _, s := range bad() {
		if e := timesync.Check(s); e != api.ErrArg {
			t.Errorf("%v: error %d", s, e)
		}
	}
}

func TestMeasure(t *testing.T) {
	for _, c := range []struct {
		c             api.Clock
		slot, t, want int
		e             api.Errno
	}{
		{of(0, 0), 0, 0, -2120, api.OK}, {of(0, 0), 0, 2120, 0, api.OK}, {of(0, 0), 0, mostTime, mostTime - 2120, api.OK}, {of(0, 0), 1, 12120, 0, api.OK}, {of(0, 0), 1, 12121, 1, api.OK}, {of(0, 0), 1, 12119, -1, api.OK},
		{of(0, 0), lastSlot, 0, -lastSlot*10000 - 2120, api.OK}, {of(0, 0), lastSlot, mostTime, 5656, api.OK}, {of(mostShift, 0), lastSlot, 0, 5656, api.OK}, {of(mostShift, 0), 0, mostTime, 2*mostTime - 2120, api.OK}, {of(-mostShift, 0), lastSlot, 0, -2*mostTime + 5656, api.OK},
		// the fast clock shows 12121 at 12120, the slow one 12118
		{of(0, mostDrift), 1, 12120, 1, api.OK}, {of(0, -mostDrift), 1, 12120, -2, api.OK}, {of(mostShift, mostDrift), 0, mostTime, 2*mostTime + 109951162 - 2120, api.OK}, {of(-mostShift, -mostDrift), 0, mostTime, -109951163 - 2120, api.OK},
		{of(0, 0), -1, 0, 0, api.ErrRange}, {of(0, 0), lastSlot + 1, 0, 0, api.ErrRange}, {of(0, 0), math.MinInt, 0, 0, api.ErrRange}, {of(0, 0), math.MaxInt, 0, 0, api.ErrRange},
		{of(0, 0), 0, -1, 0, api.ErrRange}, {of(0, 0), 0, mostTime + 1, 0, api.ErrRange}, {of(0, 0), lastSlot, math.MinInt, 0, api.ErrRange}, {of(0, 0), lastSlot, math.MaxInt, 0, api.ErrRange}, {of(0, 0), -1, -1, 0, api.ErrRange}, {of(0, 0), lastSlot + 1, mostTime + 1, 0, api.ErrRange},
	} {
		if got, e := timesync.Measure(c.c, c.slot, c.t); got != c.want || e != c.e {
			t.Errorf("%v, slot %d, %d: difference %d, error %d, want %d, error %d", c.c, c.slot, c.t, got, e, c.want, c.e)
		}
	}
	for _, c := range badClocks() {
		for _, n := range []int{0, 1, -1, lastSlot + 1, mostTime + 1, math.MinInt, math.MaxInt} {
			if got, e := timesync.Measure(c, n, n); got != 0 || e != api.ErrArg {
				t.Errorf("%v, slot %d, %d: difference %d, error %d", c, n, n, got, e)
			}
		}
	}
}

// none is the state that stands beside an error.
var none api.Synced

func TestHear(t *testing.T) {
	for _, c := range []struct {
		s       api.Synced
		slot, t int
		want    api.Synced
		e       api.Errno
	}{
		// differences
		{never(0, 0), 1, 12120, state(0, 0, 1, 1), api.OK}, {never(0, 0), 1, 12120 + 4999, state(-4999, 0, 1, 1), api.OK}, {never(0, 0), 1, 12120 - 4999, state(4999, 0, 1, 1), api.OK},
		{never(0, 0), 1, 12120 + 5000, none, api.ErrLate}, {never(0, 0), 1, 12120 - 5000, none, api.ErrLate}, {never(0, 0), 1, mostTime, none, api.ErrLate}, {never(0, 0), 1, 0, none, api.ErrLate},
		{never(300, mostDrift), 1, 12120, state(-1, mostDrift, 1, 1), api.OK}, {never(300, -mostDrift), 1, 12120, state(2, -mostDrift, 1, 1), api.OK}, {never(-300, -mostDrift), 1, 12120, state(2, -mostDrift, 1, 1), api.OK},
		{never(0, 0), 0, 0, state(2120, 0, 0, 1), api.OK}, {never(7119, 0), 0, 0, state(2120, 0, 0, 1), api.OK}, {never(7120, 0), 0, 0, none, api.ErrLate}, {never(-657, 0), lastSlot, mostTime, state(-5656, 0, lastSlot, 1), api.OK}, {never(-656, 0), lastSlot, mostTime, none, api.ErrLate},
		// slots
		{state(0, 0, 4, 7), 5, 52121, state(-1, 0, 5, 8), api.OK}, {state(0, 0, 0, 1), 5, 52121, state(-1, 0, 5, 2), api.OK},
		{state(0, 0, 5, 7), 5, 52121, none, api.ErrOrder}, {state(0, 0, 6, 7), 5, 52121, none, api.ErrOrder}, {state(0, 0, lastSlot, 7), 5, 52121, none, api.ErrOrder}, {state(0, 0, lastSlot, 1), lastSlot, mostTime, none, api.ErrOrder}, {state(0, 0, 0, 1), 0, 2120, none, api.ErrOrder},
		// ranges
		{never(0, 0), -1, 2120, none, api.ErrRange}, {never(0, 0), lastSlot + 1, 2120, none, api.ErrRange}, {never(0, 0), math.MinInt, 2120, none, api.ErrRange}, {never(0, 0), math.MaxInt, 2120, none, api.ErrRange},
		{never(0, 0), 0, -1, none, api.ErrRange}, {never(0, 0), lastSlot, mostTime + 1, none, api.ErrRange}, {never(0, 0), 0, math.MinInt, none, api.ErrRange}, {never(0, 0), 0, math.MaxInt, none, api.ErrRange},
		// counts
		{state(0, 0, 4, mostCount-1), 5, 52121, state(-1, 0, 5, mostCount), api.OK}, {state(0, 0, 4, mostCount), 5, 52121, none, api.ErrFull},
		// the first clock shows the sending time of slot 10994 at 1099511618735
		{never(-mostShift, mostDrift), 10994, 1099511618735, state(-mostShift, mostDrift, 10994, 1), api.OK}, {never(-mostShift, mostDrift), 10994, 1099511618736, none, api.ErrArg},
		{never(1-mostShift, mostDrift), 10994, 1099511618735, state(-mostShift, mostDrift, 10994, 1), api.OK}, {never(1-mostShift, mostDrift), 10994, 1099511618736, none, api.ErrArg},
		{never(-mostShift, mostDrift), 10994, 1099511618734, state(1-mostShift, mostDrift, 10994, 1), api.OK},
	} {
		if got, e := timesync.Hear(c.s, c.slot, c.t); got != c.want || e != c.e {
			t.Errorf("%v hears in slot %d at %d: %v, error %d, want %v, error %d", c.s, c.slot, c.t, got, e, c.want, c.e)
		}
	}
}

func TestErrorsOfHearInTheirOrder(t *testing.T) {
	// at this time the clock of these states is 5000 later than in slot 10994
	const late = 1099511618735 + 4999
	for _, c := range []struct {
		s       api.Synced
		slot, t int
		want    api.Errno
	}{
		{state(-mostShift, mostDrift, 10994, mostCount+1), -1, -1, api.ErrArg}, {state(-mostShift, mostDrift, 10994, mostCount+1), 10994, late, api.ErrArg},
		{state(-mostShift, mostDrift, 10994, mostCount), -1, late, api.ErrRange}, {state(-mostShift, mostDrift, 10994, mostCount), 10994, -1, api.ErrRange}, {state(-mostShift, mostDrift, 10994, mostCount), 10994, mostTime + 1, api.ErrRange}, {state(-mostShift, mostDrift, 10994, mostCount), lastSlot + 1, late, api.ErrRange},
		{state(-mostShift, mostDrift, 10994, mostCount), 10994, late, api.ErrOrder}, {state(-mostShift, mostDrift, 10994, mostCount), 10994, late - 1, api.ErrOrder}, {state(-mostShift, mostDrift, 10994, 1), 10994, late - 1, api.ErrOrder},
		{state(-mostShift, mostDrift, 10993, mostCount), 10994, late, api.ErrLate}, {state(-mostShift, mostDrift, 10993, 1), 10994, late, api.ErrLate},
		{state(-mostShift, mostDrift, 10993, mostCount), 10994, late - 1, api.ErrFull}, {state(-mostShift, mostDrift, 10993, 1), 10994, late - 1, api.ErrArg},
	} {
		if got, e := timesync.Hear(c.s, c.slot, c.t); got != none || e != c.want {
			t.Errorf("%v hears in slot %d at %d: %v, error %d, want error %d", c.s, c.slot, c.t, got, e, c.want)
		}
	}
}

func TestAcked(t *testing.T) {
	for _, c := range []struct {
		s                api.Synced
		slot, difference int
		want             api.Synced
		e                api.Errno
	}{
		// differences
		{never(10, 7), 1, 0, state(10, 7, 1, 1), api.OK}, {never(10, 7), 1, 4999, state(5009, 7, 1, 1), api.OK}, {never(10, 7), 1, -4999, state(-4989, 7, 1, 1), api.OK}, {never(40, 0), 1, -40, state(0, 0, 1, 1), api.OK}, {never(0, 0), 1, 1, state(1, 0, 1, 1), api.OK},
		{never(10, 7), 1, 5000, none, api.ErrLate}, {never(10, 7), 1, -5000, none, api.ErrLate}, {never(10, 7), 1, math.MaxInt, none, api.ErrLate}, {never(10, 7), 1, math.MinInt, none, api.ErrLate},
		// slots
		{never(10, 7), 0, 3, state(13, 7, 0, 1), api.OK}, {never(10, 7), lastSlot, 3, state(13, 7, lastSlot, 1), api.OK}, {state(10, 7, 4, 2), 5, 3, state(13, 7, 5, 3), api.OK}, {state(10, 7, 0, 2), lastSlot, 3, state(13, 7, lastSlot, 3), api.OK},
		{state(10, 7, 5, 2), 5, 3, none, api.ErrOrder}, {state(10, 7, 6, 2), 5, 3, none, api.ErrOrder}, {state(10, 7, 0, 2), 0, 3, none, api.ErrOrder}, {state(10, 7, lastSlot, 2), lastSlot, 3, none, api.ErrOrder},
		{never(10, 7), -1, 3, none, api.ErrRange}, {never(10, 7), lastSlot + 1, 3, none, api.ErrRange}, {never(10, 7), math.MinInt, 3, none, api.ErrRange}, {never(10, 7), math.MaxInt, 3, none, api.ErrRange},
		// counts
		{state(10, 7, 4, mostCount-1), 5, 3, state(13, 7, 5, mostCount), api.OK}, {state(10, 7, 4, mostCount), 5, 3, none, api.ErrFull},
		// adjusted clocks
		{never(mostShift, 7), 1, 0, state(mostShift, 7, 1, 1), api.OK}, {never(mostShift, 7), 1, 1, none, api.ErrArg}, {never(mostShift, 7), 1, -1, state(mostShift-1, 7, 1, 1), api.OK}, {never(mostShift-4999, 7), 1, 4999, state(mostShift, 7, 1, 1), api.OK}, {never(mostShift-4998, 7), 1, 4999, none, api.ErrArg},
		{never(-mostShift, 7), 1, 0, state(-mostShift, 7, 1, 1), api.OK}, {never(-mostShift, 7), 1, -1, none, api.ErrArg}, {never(-mostShift, 7), 1, 1, state(1-mostShift, 7, 1, 1), api.OK}, {never(4999-mostShift, 7), 1, -4999, state(-mostShift, 7, 1, 1), api.OK}, {never(4998-mostShift, 7), 1, -4999, none, api.ErrArg},
		// errors in their order
		{state(mostShift, 7, 5, mostCount+1), -1, 5000, none, api.ErrArg}, {state(mostShift, 7, 5, mostCount), -1, 5000, none, api.ErrRange}, {state(mostShift, 7, 5, mostCount), lastSlot + 1, 5000, none, api.ErrRange},
		{state(mostShift, 7, 5, mostCount), 5, 5000, none, api.ErrOrder}, {state(mostShift, 7, 5, mostCount), 5, 1, none, api.ErrOrder}, {state(mostShift, 7, 5, 1), 5, 1, none, api.ErrOrder}, {state(mostShift, 7, 5, mostCount), 6, 5000, none, api.ErrLate}, {state(mostShift, 7, 5, 1), 6, 5000, none, api.ErrLate}, {state(mostShift, 7, 5, mostCount), 6, 1, none, api.ErrFull}, {state(mostShift, 7, 5, 1), 6, 1, none, api.ErrArg},
	} {
		if got, e := timesync.Acked(c.s, c.slot, c.difference); got != c.want || e != c.e {
			t.Errorf("%v is acknowledged in slot %d with %d: %v, error %d, want %v, error %d", c.s, c.slot, c.difference, got, e, c.want, c.e)
		}
	}
}

func TestCorrectionsOfStatesThatAreNotValid(t *testing.T) {
	for _, s := range bad() {
		for _, n := range []int{6, 0, 1, 12120, -1, lastSlot + 1, mostTime + 1, math.MinInt, math.MaxInt} {
			if got, e := timesync.Hear(s, n, n); got != none || e != api.ErrArg {
				t.Errorf("%v hears in slot %d at %d: %v, error %d", s, n, n, got, e)
			}
			if got, e := timesync.Acked(s, n, n); got != none || e != api.ErrArg {
				t.Errorf("%v is acknowledged in slot %d with %d: %v, error %d", s, n, n, got, e)
			}
			if timesync.Synchronized(s, n, math.MaxInt) {
				t.Errorf("%v is synchronized in slot %d", s, n)
			}
		}
		if got, e := timesync.Hear(s, 6, 62120); got != none || e != api.ErrArg {
			t.Errorf("%v hears: %v, error %d", s, got, e)
		}
		if timesync.Synchronized(s, s.Slot, 1) {
			t.Errorf("%v is synchronized", s)
		}
	}
}

func TestSynchronized(t *testing.T) {
	for _, c := range []struct {
		s          api.Synced
		slot, keep int
		want       bool
	}{
		{state(0, 0, 100, 1), 100, 10, true}, {state(0, 0, 100, 1), 101, 10, true}, {state(0, 0, 100, 1), 110, 10, true}, {state(0, 0, 100, 1), 111, 10, false}, {state(0, 0, 100, 1), 99, 10, false}, {state(0, 0, 100, 1), -100, 10, false}, {state(0, 0, 100, 1), -1, 1000, false},
		{state(0, 0, 100, 1), 100, 0, true}, {state(0, 0, 100, 1), 101, 0, false}, {state(0, 0, 100, 1), 99, 0, false}, {state(0, 0, 100, 1), 100, -1, false}, {state(0, 0, 100, 1), 99, -1, false}, {state(0, 0, 100, 1), 101, -1, false}, {state(0, 0, 100, 1), 100, math.MinInt, false}, {state(0, 0, 100, 1), 99, math.MinInt, false}, {state(0, 0, 100, 1), math.MinInt, math.MinInt, false},
		{state(0, 0, 100, 1), 100, math.MaxInt, true}, {state(0, 0, 100, 1), lastSlot, math.MaxInt, true}, {state(0, 0, 100, 1), math.MaxInt, math.MaxInt, true}, {state(0, 0, 100, 1), 99, math.MaxInt, false}, {state(0, 0, 100, 1), math.MinInt, math.MaxInt, false}, {state(0, 0, 100, 1), math.MaxInt, math.MaxInt - 100, true}, {state(0, 0, 100, 1), math.MaxInt, math.MaxInt - 101, false},
		{state(0, 0, 0, 1), 0, 0, true}, {state(0, 0, 0, 1), 5, 5, true}, {state(0, 0, 0, 1), 6, 5, false}, {state(0, 0, 0, 1), -1, 5, false}, {state(0, 0, lastSlot, mostCount), lastSlot, 0, true}, {state(mostShift, mostDrift, lastSlot, mostCount), lastSlot + 5, 5, true}, {state(mostShift, mostDrift, lastSlot, mostCount), lastSlot + 6, 5, false},
		// clocks that were never corrected
		{never(0, 0), -1, 0, false}, {never(0, 0), 0, 0, false}, {never(0, 0), 0, 1, false}, {never(0, 0), -1, math.MaxInt, false}, {never(0, 0), 5, math.MaxInt, false},
	} {
		if got := timesync.Synchronized(c.s, c.slot, c.keep); got != c.want {
			t.Errorf("%v is synchronized in slot %d for %d: %t", c.s, c.slot, c.keep, got)
		}
	}
}

func TestSpread(t *testing.T) {
	for _, c := range []struct {
		name    string
		l       []api.Synced
		t, want int
		e       api.Errno
	}{
		{"none", nil, 0, 0, api.OK}, {"none", []api.Synced{}, mostTime, 0, api.OK}, {"one", []api.Synced{never(7, 5)}, 0, 0, api.OK}, {"one", []api.Synced{state(-mostShift, -mostDrift, 3, 1)}, mostTime, 0, api.OK},
		{"two", []api.Synced{never(7, 0), never(-3, 0)}, 5, 10, api.OK}, {"two", []api.Synced{never(-3, 0), never(7, 0)}, 5, 10, api.OK}, {"equal", []api.Synced{never(7, 0), state(7, 0, 3, 1)}, 5, 0, api.OK}, {"negative", []api.Synced{never(-7, 0), never(-3, 0)}, 0, 4, api.OK}, {"the same offset", []api.Synced{never(0, mostDrift), never(0, -mostDrift)}, 0, 0, api.OK},
		{"drifting", []api.Synced{never(0, mostDrift), never(0, -mostDrift)}, 10000, 2, api.OK}, {"drifting", []api.Synced{never(0, mostDrift), never(0, -mostDrift)}, mostTime, 219902325, api.OK}, {"meeting", []api.Synced{never(0, mostDrift), never(2, -mostDrift)}, 10000, 0, api.OK}, {"meeting", []api.Synced{never(0, mostDrift), never(2, -mostDrift)}, 0, 2, api.OK},
		{"the farthest", []api.Synced{never(mostShift, mostDrift), never(-mostShift, -mostDrift)}, 0, 2 * mostShift, api.OK}, {"the farthest", []api.Synced{never(mostShift, mostDrift), never(-mostShift, -mostDrift)}, mostTime, 2*mostShift + 219902325, api.OK},
		{"three", []api.Synced{never(1, 0), never(9, 0), never(4, 0)}, 3, 8, api.OK}, {"three", []api.Synced{never(4, 0), never(1, 0), never(9, 0)}, 3, 8, api.OK}, {"three", []api.Synced{never(9, 0), never(4, 0), never(1, 0)}, 3, 8, api.OK}, {"far from 0", []api.Synced{never(1000, 0), never(1003, 0), never(1001, 0)}, 3, 3, api.OK},
		{"32", append(slices.Repeat([]api.Synced{never(2, 0)}, 31), never(5, 0)), 3, 3, api.OK}, {"33", append(slices.Repeat([]api.Synced{never(2, 0)}, 32), never(5, 0)), 3, 0, api.ErrArg}, {"33, too early", slices.Repeat([]api.Synced{never(2, 0)}, 33), -1, 0, api.ErrArg},
		{"too early", []api.Synced{never(7, 0), never(-3, 0)}, -1, 0, api.ErrRange}, {"too late", []api.Synced{never(7, 0), never(-3, 0)}, mostTime + 1, 0, api.ErrRange}, {"none, too early", nil, -1, 0, api.ErrRange}, {"none, too late", nil, mostTime + 1, 0, api.ErrRange}, {"one, too early", []api.Synced{never(7, 0)}, math.MinInt, 0, api.ErrRange}, {"one, too late", []api.Synced{never(7, 0)}, math.MaxInt, 0, api.ErrRange},
	} {
		before := slices.Clone(c.l)
		if got, e := timesync.Spread(c.l, c.t); got != c.want || e != c.e {
			t.Errorf("%s: spread %d at %d, error %d, want %d, error %d", c.name, got, c.t, e, c.want, c.e)
		}
		if !slices.Equal(before, c.l) {
			t.Errorf("%s: the list is modified: %v", c.name, c.l)
		}
	}
	for _, s := range bad() {
		for i := range 3 {
			l := []api.Synced{never(1, 2), state(3, 4, 5, 6), never(7, 8)}
			l[i] = s
			for _, time := range []int{0, mostTime, -1, mostTime + 1} {
				if got, e := timesync.Spread(l, time); got != 0 || e != api.ErrArg {
					t.Errorf("%v: spread %d at %d, error %d", l, got, time, e)
				}
			}
		}
	}
}
