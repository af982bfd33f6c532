package guard_test

import (
	"math"
	"math/rand"
	"testing"

	"hopmesh/api"
	"hopmesh/clock"
	"hopmesh/guard"
)

const (
	lastSlot  = api.MaxSlot
	mostShift = 1 << 40
)

// of returns a clock.
func of(offset, drift int) api.Clock { return api.Clock{Offset: offset, Drift: drift} }

// bad returns clocks that are not valid.
func bad() []api.Clock {
	return []api.Clock{of(mostShift+1, 0), of(-mostShift-1, 0), of(0, mostDrift+1), of(0, -mostDrift-1), of(math.MaxInt, math.MinInt), of(math.MinInt, math.MaxInt)}
}

// shows returns what a valid clock shows at a time.
func shows(c api.Clock, time int) int {
	// the quotient is rounded to 0, so a negative one with a remainder is one too great
	quotient := time * c.Drift / 1000000000
	if time*c.Drift%1000000000 < 0 {
		quotient--
	}
	return c.Offset + time + quotient
}

func TestEnd(t *testing.T) {
	for _, c := range []struct {
		c          api.Clock
		slot, want int
		e          api.Errno
	}{
		{of(0, 0), 0, 8208, api.OK}, {of(0, 0), 1, 18208, api.OK}, {of(0, 0), 2, 28208, api.OK}, {of(40, 0), 1, 18168, api.OK}, {of(-40, 0), 1, 18248, api.OK}, {of(5, -100000), 1, 18205, api.OK}, {of(0, 100000), 1, 18207, api.OK}, {of(0, -100000), 1, 18210, api.OK},
		{of(2119, 0), 0, 6089, api.OK}, {of(2120, 0), 0, 6088, api.OK}, {of(2121, 0), 0, 6088, api.OK}, {of(mostShift, 0), 0, 6088, api.OK}, {of(mostShift, 0), lastSlot, 6088, api.OK}, {of(mostShift, mostDrift), lastSlot, 6088, api.OK},
		// just at MaxTime, and one behind it
		{of(432, 0), lastSlot, mostTime, api.OK}, {of(431, 0), lastSlot, 0, api.ErrLate}, {of(433, 0), lastSlot, mostTime - 1, api.OK}, {of(0, 0), lastSlot, 0, api.ErrLate}, {of(0, 0), lastSlot - 1, mostTime - 9568, api.OK},
		{of(8208-mostShift, 0), 0, mostTime, api.OK}, {of(8207-mostShift, 0), 0, 0, api.ErrLate}, {of(18208-mostShift, 0), 1, mostTime, api.OK}, {of(18207-mostShift, 0), 1, 0, api.ErrLate},
		// a frame is not even sent up to MaxTime
		{of(2120-mostShift, 0), 0, 0, api.ErrLate}, {of(2119-mostShift, 0), 0, 0, api.ErrLate}, {of(-mostShift, 0), 0, 0, api.ErrLate}, {of(0, -100000), lastSlot, 0, api.ErrLate},
		{of(0, 0), -1, 0, api.ErrRange}, {of(0, 0), lastSlot + 1, 0, api.ErrRange}, {of(mostShift, 0), -1, 0, api.ErrRange}, {of(mostShift, 0), lastSlot + 1, 0, api.ErrRange}, {of(-mostShift, 0), lastSlot + 1, 0, api.ErrRange}, {of(0, 0), math.MinInt, 0, api.ErrRange}, {of(0, 0), math.MaxInt, 0, api.ErrRange},
	} {
		if got, e := guard.End(c.c, c.slot); got != c.want || e != c.e {
			t.Errorf("slot %d of %v ends at %d, error %d, want %d, error %d", c.slot, c.c, got, e, c.want, c.e)
		}
	}
}

func TestEndOfClocksThatAreNotValid(t *testing.T) {
	for _, c := range bad() {
		for _, slot := range []int{0, 1, lastSlot, -1, lastSlot + 1, math.MinInt, math.MaxInt} {
			if got, e := guard.End(c, slot); got != 0 || e != api.ErrArg {
				t.Errorf("slot %d of %v ends at %d, error %d", slot, c, got, e)
			}
		}
	}
}

// check compares Fits and Late with what they must return.
func check(t *testing.T, sender, receiver api.Clock, slot, late int, fits bool, want api.Errno) {
	t.Helper()
	if got, e := guard.Late(sender, receiver, slot); got != late || e != want {
		t.Errorf("a frame of %v in slot %d is late by %d for %v, error %d, want %d, error %d", sender, slot, got, receiver, e, late, want)
	}
	if got, e := guard.Fits(sender, receiver, slot); got != fits || e != want {
		t.Errorf("a frame of %v in slot %d fits for %v: %t, error %d, want %t, error %d", sender, slot, receiver, got, e, fits, want)
	}
}

func TestClocksThatDiffer(t *testing.T) {
	for _, base := range []int{0, 5, -7, -5000} {
		for _, slot := range []int{0, 1, 2, 1000, lastSlot - 3} {
			for _, late := range []int{0, 1, -1, 40, -40, 1098, -1098, 1099, -1099, 1100, -1100, 1101, -1101, 1102, -1102, 4000, -4000, 9999, -9999, 10000, -10000, 12000, -12000} {
				check(t, of(base, 0), of(base+late, 0), slot, late, -1100 <= late && late <= 1100, api.OK)
			}
		}
	}
}

func TestClocksThatDrift(t *testing.T) {
	for _, c := range []struct {
		sender, receiver api.Clock
		slot, late       int
		fits             bool
	}{
		{of(5, -100000), of(5, -100000), 1, 0, true}, {of(0, mostDrift), of(0, mostDrift), 100, 0, true},
		// the senders show 12120 at 12118, 12119 and 12122
		{of(1, mostDrift), of(0, -mostDrift), 1, -4, true}, {of(0, mostDrift), of(0, -mostDrift), 1, -3, true}, {of(0, -mostDrift), of(0, mostDrift), 1, 3, true},
		{of(0, mostDrift), of(0, -mostDrift), 549, -1099, true}, {of(0, mostDrift), of(0, -mostDrift), 550, -1101, false}, {of(0, -mostDrift), of(0, mostDrift), 549, 1099, true}, {of(0, -mostDrift), of(0, mostDrift), 550, 1101, false},
		{of(0, -mostDrift), of(-2, mostDrift), 550, 1099, true}, {of(0, -mostDrift), of(-1, mostDrift), 550, 1100, true}, {of(0, mostDrift), of(1, -mostDrift), 550, -1100, true}, {of(0, mostDrift), of(2, -mostDrift), 550, -1099, true},
		{of(0, 0), of(0, mostDrift), 1099, 1099, true}, {of(0, 0), of(0, mostDrift), 1100, 1100, true}, {of(0, 0), of(0, mostDrift), 1101, 1101, false}, {of(0, 0), of(0, -mostDrift), 1099, -1100, true}, {of(0, 0), of(0, -mostDrift), 1100, -1101, false},
		// the sender shows X + 1 when it reaches X
		{of(0, mostDrift), of(1, mostDrift), 0, 1, true}, {of(-7880, mostDrift), of(-7880, mostDrift), 0, 1, true}, {of(-7880, mostDrift), of(-8980, mostDrift), 0, -1099, true}, {of(-7880, mostDrift), of(-8981, mostDrift), 0, -1100, true}, {of(-7880, mostDrift), of(-8982, mostDrift), 0, -1101, false}, {of(-7880, mostDrift), of(-6781, mostDrift), 0, 1100, true}, {of(-7880, mostDrift), of(-6780, mostDrift), 0, 1101, false},
	} {
		check(t, c.sender, c.receiver, c.slot, c.late, c.fits, api.OK)
	}
}

func TestClocksThatShowMoreAtTheTime0(t *testing.T) {
	for _, c := range []struct {
		sender, receiver api.Clock
		slot, late       int
		fits             bool
	}{
		// the sender sends at the time 0
		{of(2121, 0), of(2120, 0), 0, 0, true}, {of(5000, 0), of(2120, 0), 0, 0, true}, {of(5000, 0), of(5000, 0), 0, 2880, false}, {of(5000, 0), of(3220, 0), 0, 1100, true}, {of(5000, 0), of(3221, 0), 0, 1101, false}, {of(5000, 0), of(1020, 0), 0, -1100, true}, {of(5000, 0), of(1019, 0), 0, -1101, false}, {of(5000, 0), of(0, 0), 0, -2120, false},
		{of(mostShift, mostDrift), of(12120, -mostDrift), 1, 0, true}, {of(mostShift, 0), of(mostShift, 0), 0, mostShift - 2120, false}, {of(mostShift, 0), of(-7000, 0), 3, -39120, false}, {of(mostShift, 0), of(mostShift, 0), lastSlot, 5656, false},
		// only the receiver shows more
		{of(0, 0), of(3220, 0), 0, 3220, false}, {of(2119, 0), of(3220, 0), 0, 1101, false}, {of(2119, 0), of(3219, 0), 0, 1100, true}, {of(2120, 0), of(3220, 0), 0, 1100, true}, {of(0, 0), of(mostShift, 0), 0, mostShift, false},
	} {
		check(t, c.sender, c.receiver, c.slot, c.late, c.fits, api.OK)
	}
}

func TestErrorsOfFrames(t *testing.T) {
	never := of(-mostShift, 0)
	for _, c := range []struct {
		sender, receiver api.Clock
		slot             int
		want             api.Errno
	}{
		{of(mostShift+1, 0), of(0, 0), 0, api.ErrArg}, {of(0, 0), of(mostShift+1, 0), 0, api.ErrArg}, {of(0, 0), of(0, mostDrift+1), 0, api.ErrArg},
		{of(0, 0), of(0, 0), -1, api.ErrRange}, {of(0, 0), of(0, 0), lastSlot + 1, api.ErrRange}, {of(0, 0), of(0, 0), math.MinInt, api.ErrRange}, {of(0, 0), of(0, 0), math.MaxInt, api.ErrRange},
		{never, of(0, 0), 0, api.ErrLate}, {of(0, 0), never, 0, api.ErrLate},
		// the sender's error comes before the receiver's
		{of(0, mostDrift+1), never, 0, api.ErrArg}, {never, of(0, mostDrift+1), 0, api.ErrLate}, {of(0, 0), of(0, mostDrift+1), -1, api.ErrRange}, {of(0, 0), of(0, mostDrift+1), lastSlot + 1, api.ErrRange}, {never, of(0, 0), lastSlot + 1, api.ErrRange}, {of(0, mostDrift+1), of(0, 0), -1, api.ErrArg}, {of(0, mostDrift+1), of(0, mostDrift+1), -1, api.ErrArg},
		// the frame is just sent up to MaxTime, and one microsecond later not
		{of(2120-mostShift, 0), of(0, 0), 0, api.OK}, {of(2119-mostShift, 0), of(0, 0), 0, api.ErrLate}, {of(-5656, 0), of(0, 0), lastSlot, api.OK}, {of(-5657, 0), of(0, 0), lastSlot, api.ErrLate},
		// the window just ends before MaxTime, and one microsecond later not
		{of(0, 0), of(3221-mostShift, 0), 0, api.OK}, {of(0, 0), of(3220-mostShift, 0), 0, api.ErrLate}, {of(0, 0), of(-4555, 0), lastSlot, api.OK}, {of(0, 0), of(-4556, 0), lastSlot, api.ErrLate},
	} {
		late, e := guard.Late(c.sender, c.receiver, c.slot)
		fits, f := guard.Fits(c.sender, c.receiver, c.slot)
		if e != c.want || f != c.want || e != api.OK && (late != 0 || fits) {
			t.Errorf("%v, %v, slot %d: late by %d, error %d, fits %t, error %d, want error %d", c.sender, c.receiver, c.slot, late, e, fits, f, c.want)
		}
	}
}

func TestArrivalNextToASearchOverAllTimes(t *testing.T) {
	r := rand.New(rand.NewSource(3))
	seen := map[bool]int{}
	for range 300 {
		sender, slot := of(r.Intn(16001)-8000, some(r, -mostDrift, mostDrift)), r.Intn(3)
		receiver := of(sender.Offset+r.Intn(2601)-1300, some(r, -mostDrift, mostDrift))
		x, sent := slot*10000+2120, 0
		for shows(sender, sent) < x {
			sent++
		}
		first, last := -1, -1
		for time := range 50000 {
			if first < 0 && shows(receiver, time) >= x-1100 {
				first = time
			}
			if shows(receiver, time) <= x+1100 {
				last = time
			}
		}
		fits := first <= sent && sent <= last
		seen[fits]++
		check(t, sender, receiver, slot, shows(receiver, sent)-x, fits, api.OK)
		if end, e := guard.End(sender, slot); end != sent+6088 || e != api.OK {
			t.Errorf("slot %d of %v ends at %d, error %d, want %d", slot, sender, end, e, sent+6088)
		}
	}
	if seen[true] < 50 || seen[false] < 30 {
		t.Errorf("seen: %v", seen)
	}
}

func TestWhatFitsIsLateByAtMostTheGuardTime(t *testing.T) {
	r := rand.New(rand.NewSource(4))
	seen := map[bool]int{}
	for range 20000 {
		slot := some(r, 0, lastSlot-50000)
		sender := of(some(r, -5000000, 5000000), some(r, -mostDrift, mostDrift))
		sent, e := clock.Send(sender, slot)
		if e != api.OK {
			t.Fatalf("%v in slot %d: error %d", sender, slot, e)
		}
		receiver := of(0, some(r, -mostDrift, mostDrift))
		receiver.Offset = shows(sender, sent) - shows(receiver, sent) + r.Intn(2601) - 1300
		late, e := guard.Late(sender, receiver, slot)
		fits, f := guard.Fits(sender, receiver, slot)
		if e != api.OK || f != api.OK || late != shows(receiver, sent)-slot*10000-2120 {
			t.Fatalf("%v, %v, slot %d: late by %d, errors %d and %d", sender, receiver, slot, late, e, f)
		}
		apart := shows(receiver, sent) - shows(sender, sent)
		if fits != (-1100 <= late && late <= 1100) || !fits && sent > 0 && -1098 <= apart && apart <= 1098 {
			t.Fatalf("%v, %v, slot %d: late by %d, apart by %d, fits %t", sender, receiver, slot, late, apart, fits)
		}
		seen[fits]++
	}
	if seen[true] < 1000 || seen[false] < 1000 {
		t.Errorf("seen: %v", seen)
	}
}

// drifting returns a clock whose drift is within a bound, often at one of its ends.
func drifting(r *rand.Rand, offset, drift int) api.Clock { return of(offset, some(r, -drift, drift)) }

func TestGrowthOfSomeClocks(t *testing.T) {
	r := rand.New(rand.NewSource(5))
	closest := mostTime
	for range 50000 {
		drift := some(r, 0, mostDrift)
		a, b := drifting(r, 0, drift), drifting(r, 0, drift)
		from := some(r, 0, mostTime)
		d := some(r, 0, min(mostTime-from, 1<<(1+r.Intn(40))))
		b.Offset = shows(a, from) - shows(b, from) + r.Intn(3) - 1
		apart, e := clock.Apart(a, b, from+d)
		growth, f := guard.Growth(d, drift)
		if e != api.OK || f != api.OK || max(apart, -apart) > 1+growth {
			t.Fatalf("%v and %v, %d behind %d: %d apart, growth %d, errors %d and %d", a, b, d, from, apart, growth, e, f)
		}
		closest = min(closest, 1+growth-max(apart, -apart))
	}
	if closest > 1 {
		t.Errorf("no two clocks come closer to the growth than %d", closest)
	}
}

func TestLengthOfSomeClocks(t *testing.T) {
	r := rand.New(rand.NewSource(6))
	closest := mostTime
	for range 20000 {
		drift, count := some(r, 0, mostDrift), some(r, 0, mostSlots)
		c := drifting(r, some(r, -mostTime/2, mostTime/2), drift)
		from := some(r, 0, mostTime/4)
		to, e := clock.Reach(c, shows(c, from)+count*10000)
		length, f := guard.Length(count, drift)
		if e != api.OK || f != api.OK || to-from > length {
			t.Fatalf("%v from %d to %d: length %d, errors %d and %d", c, from, to, length, e, f)
		}
		closest = min(closest, length-(to-from))
	}
	if closest > 1 {
		t.Errorf("no clock comes closer to the length than %d", closest)
	}
}

func TestSlotsDoNotOverlap(t *testing.T) {
	r := rand.New(rand.NewSource(7))
	seen := 0
	for range 20000 {
		slot := some(r, 0, lastSlot-50000)
		b := drifting(r, some(r, -5000000, 0), mostDrift)
		next, e := clock.Send(b, slot+1)
		if e != api.OK {
			t.Fatalf("%v in slot %d: error %d", b, slot+1, e)
		}
		a := drifting(r, 0, mostDrift)
		a.Offset = shows(b, next) - shows(a, next) + some(r, -1100, 1100)
		// a clock that shows more at the time 0 already says nothing by this frame
		if a.Offset > slot*10000+2120 {
			continue
		}
		if end, e := guard.End(a, slot); end >= next || e != api.OK {
			t.Fatalf("slot %d of %v ends at %d, error %d, but %v sends at %d", slot, a, end, e, b, next)
		}
		seen++
	}
	if seen < 10000 {
		t.Errorf("seen: %d", seen)
	}
}
