package clock_test

import (
	"math"
	"math/big"
	"math/rand"
	"testing"

	"hopmesh/api"
	"hopmesh/clock"
)

const (
	mostTime  = api.MaxTime
	mostDrift = api.MaxDrift
	mostShift = 1 << 40
)

// of returns a clock.
func of(offset, drift int) api.Clock { return api.Clock{Offset: offset, Drift: drift} }

// bad returns clocks that are not valid.
func bad() []api.Clock {
	return []api.Clock{
		of(mostShift+1, 0), of(-mostShift-1, 0), of(0, mostDrift+1), of(0, -mostDrift-1), of(mostShift+1, mostDrift+1), of(-mostShift-1, -mostDrift-1),
		of(math.MaxInt, 0), of(math.MinInt, 0), of(0, math.MaxInt), of(0, math.MinInt), of(math.MaxInt, math.MinInt),
	}
}

func TestCheck(t *testing.T) {
	for _, c := range []api.Clock{{}, of(mostShift, 0), of(-mostShift, 0), of(0, mostDrift), of(0, -mostDrift), of(mostShift, mostDrift), of(-mostShift, -mostDrift), of(mostShift, -mostDrift), of(-1, 1)} {
		if e := clock.Check(c); e != api.OK {
			t.Errorf("%v: error %d", c, e)
		}
	}
	for _, c := range bad() {
		if e := clock.Check(c); e != api.ErrArg {
			t.Errorf("%v: error %d", c, e)
		}
	}
}

func TestShow(t *testing.T) {
	for _, c := range []struct {
		c       api.Clock
		t, want int
	}{
		{of(5, -100000), 0, 5}, {of(5, -100000), 1, 5}, {of(5, -100000), 10000, 10004}, {of(5, -100000), 9995, 9999}, {of(5, -100000), 9996, 10000}, {of(0, -100000), 10000, 9999},
		{of(0, 0), 0, 0}, {of(0, 0), 1, 1}, {of(0, 0), mostTime, mostTime}, {of(-7, 0), 0, -7}, {of(-7, 0), 7, 0}, {of(7, 0), 3, 10},
		{of(0, 100000), 0, 0}, {of(0, 100000), 1, 1}, {of(0, 100000), 9999, 9999}, {of(0, 100000), 10000, 10001}, {of(0, 100000), 10001, 10002}, {of(0, 100000), 19999, 20000}, {of(0, 100000), 20000, 20002},
		{of(0, -100000), 1, 0}, {of(0, -100000), 2, 1}, {of(0, -100000), 10001, 9999}, {of(0, -100000), 20000, 19998}, {of(0, -100000), 20001, 19998},
		{of(0, 1), 999999999, 999999999}, {of(0, 1), 1000000000, 1000000001}, {of(0, -1), 1, 0}, {of(0, -1), 1000000000, 999999999}, {of(0, -1), 1000000001, 999999999},
		{of(0, 100000), mostTime, 1099621578938}, {of(0, -100000), mostTime, 1099401676613}, {of(0, 1), mostTime, mostTime + 1099}, {of(0, -1), mostTime, mostTime - 1100},
		{of(mostShift, 100000), mostTime, mostShift + 1099621578938}, {of(-mostShift, -100000), mostTime, -109951163}, {of(-mostShift, -100000), 0, -mostShift}, {of(-mostShift, 0), mostTime, 0},
	} {
		if got, e := clock.Show(c.c, c.t); got != c.want || e != api.OK {
			t.Errorf("%v shows %d at %d, error %d, want %d", c.c, got, c.t, e, c.want)
		}
	}
}

func TestTimesOutOfRange(t *testing.T) {
	for _, time := range []int{-1, mostTime + 1, math.MinInt, math.MaxInt} {
		for _, c := range append(bad(), of(0, 0), of(-1, 0), of(-mostShift, -1)) {
			want := api.ErrRange
			if clock.Check(c) != api.OK {
				want = api.ErrArg
			}
			if got, e := clock.Show(c, time); got != 0 || e != want {
				t.Errorf("%v shows %d at %d, error %d, want error %d", c, got, time, e, want)
			}
			if got, e := clock.Slot(c, time); got != 0 || e != want {
				t.Errorf("%v: slot %d at %d, error %d, want error %d", c, got, time, e, want)
			}
			if got, e := clock.Apart(c, of(3, 4), time); got != 0 || e != want {
				t.Errorf("%v and another one are %d apart at %d, error %d, want error %d", c, got, time, e, want)
			}
			if got, e := clock.Apart(of(3, 4), c, time); got != 0 || e != want {
				t.Errorf("a clock and %v are %d apart at %d, error %d, want error %d", c, got, time, e, want)
			}
			if got, e := clock.Apart(c, c, time); got != 0 || e != want {
				t.Errorf("%v and itself are %d apart at %d, error %d, want error %d", c, got, time, e, want)
			}
		}
	}
}

func TestClocksThatAreNotValid(t *testing.T) {
	for _, c := range bad() {
		for _, n := range []int{0, 1, -1, 5000, mostTime, math.MinInt, math.MaxInt} {
			var numbers [8]int
			var errors [8]api.Errno
			numbers[0], errors[0] = clock.Show(c, n)
			numbers[1], errors[1] = clock.Reach(c, n)
			numbers[2], errors[2] = clock.Begin(c, n)
			numbers[3], errors[3] = clock.Send(c, n)
			numbers[4], numbers[5], errors[4] = clock.Window(c, n)
			numbers[6], errors[5] = clock.Slot(c, n)
			numbers[7], errors[6] = clock.Apart(c, of(0, 0), n)
			_, errors[7] = clock.Apart(of(0, 0), c, n)
			if numbers != [8]int{} {
				t.Errorf("%v, %d: %v", c, n, numbers)
			}
			for i, e := range errors {
				if e != api.ErrArg {
					t.Errorf("%v, %d: error %d of the function %d", c, n, e, i)
				}
			}
			if got, e := clock.Adjust(c, n); got != of(0, 0) || e != api.ErrArg {
				t.Errorf("%v is adjusted by %d to %v, error %d", c, n, got, e)
			}
		}
		if got, e := clock.Adjust(c, -c.Offset); got != of(0, 0) || e != api.ErrArg {
			t.Errorf("%v is adjusted to %v, error %d", c, got, e)
		}
	}
}

// shows returns what a valid clock shows at a time.
func shows(t *testing.T, c api.Clock, time int) int {
	t.Helper()
	shown, e := clock.Show(c, time)
	if e != api.OK {
		t.Fatalf("%v at %d: error %d", c, time, e)
	}
	return shown
}

// longShow computes what a clock shows with numbers of any length.
func longShow(c api.Clock, time int) int {
	product := new(big.Int).Mul(big.NewInt(int64(time)), big.NewInt(int64(c.Drift)))
	// the remainder of this division is never negative, so the quotient is rounded down
	quotient, _ := new(big.Int).DivMod(product, big.NewInt(1000000000), new(big.Int))
	return c.Offset + time + int(quotient.Int64())
}

// some returns a number from least to most, often one near an end, and often a small one.
func some(r *rand.Rand, least, most int) int {
	switch r.Intn(4) {
	case 0:
		return min(most, least+r.Intn(5))
	case 1:
		return max(least, most-r.Intn(5))
	case 2:
		return max(least, min(most, r.Intn(40001)-20000))
	}
	return least + r.Intn(most-least+1)
}

// someClock returns a valid clock.
func someClock(r *rand.Rand) api.Clock {
	return of(some(r, -mostShift, mostShift), some(r, -mostDrift, mostDrift))
}

func TestShowOfSomeClocks(t *testing.T) {
	r := rand.New(rand.NewSource(1))
	var steps [4]int
	for range 20000 {
		c, time := someClock(r), some(r, 0, mostTime)
		got := shows(t, c, time)
		if want := longShow(c, time); got != want {
			t.Fatalf("%v shows %d at %d, want %d", c, got, time, want)
		}
		if time == mostTime {
			continue
		}
		step := shows(t, c, time+1) - got
		if step < 0 || step > 2 {
			t.Fatalf("%v shows %d more from %d to the next microsecond", c, step, time)
		}
		steps[step]++
		later := some(r, time, mostTime)
		change := shows(t, c, later) - got - (later - time)
		if most := (later-time)*mostDrift/1000000000 + 1; change < -most || change > most {
			t.Fatalf("%v from %d to %d: %d more than the time", c, time, later, change)
		}
	}
	if steps[1] == 0 {
		t.Error("no step is 1")
	}
}

func TestStepsOfTheFastestAndTheSlowestClock(t *testing.T) {
	for drift, least := range map[int]int{mostDrift: 1, -mostDrift: 0} {
		steps := map[int]int{}
		for time := range 30000 {
			steps[shows(t, of(3, drift), time+1)-shows(t, of(3, drift), time)]++
		}
		if len(steps) != 2 || steps[least] == 0 || steps[least+1] == 0 || steps[0]+steps[2] != 3 {
			t.Errorf("drift %d: steps %v", drift, steps)
		}
	}
}

func TestReach(t *testing.T) {
	for _, c := range []struct {
		c       api.Clock
		x, want int
	}{
		{of(5, -100000), 5, 0}, {of(5, -100000), 4, 0}, {of(5, -100000), 0, 0}, {of(5, -100000), 6, 2}, {of(5, -100000), 9999, 9995}, {of(5, -100000), 10000, 9996}, {of(5, -100000), 10004, 10000}, {of(5, -100000), 10005, 10002},
		{of(0, 0), 0, 0}, {of(0, 0), 1, 1}, {of(0, 0), -1, 0}, {of(0, 0), mostTime, mostTime}, {of(-7, 0), -7, 0}, {of(-7, 0), -6, 1}, {of(-7, 0), 0, 7}, {of(-7, 0), -8, 0}, {of(7, 0), 0, 0}, {of(7, 0), mostTime, mostTime - 7}, {of(7, 0), mostTime + 7, mostTime},
		// 10000 is leapt over, 9999 is shown twice
		{of(0, 100000), 9999, 9999}, {of(0, 100000), 10000, 10000}, {of(0, 100000), 10001, 10000}, {of(0, 100000), 10002, 10001}, {of(0, -100000), 9998, 9999}, {of(0, -100000), 9999, 10000}, {of(0, -100000), 10000, 10002}, {of(0, -100000), 0, 0}, {of(0, -100000), 1, 2},
		{of(0, 0), math.MinInt, 0}, {of(mostShift, mostDrift), mostShift, 0}, {of(mostShift, mostDrift), math.MinInt, 0},
		{of(0, 100000), 1099621578938, mostTime}, {of(0, 100000), 1099621578937, mostTime - 1}, {of(0, -100000), 1099401676613, mostTime},
		{of(-mostShift, 0), 0, mostTime}, {of(-mostShift, -100000), -109951163, mostTime}, {of(-mostShift, -100000), -mostShift, 0}, {of(-mostShift, 0), -mostShift + 1, 1},
	} {
		if got, e := clock.Reach(c.c, c.x); got != c.want || e != api.OK {
			t.Errorf("%v reaches %d at %d, error %d, want %d", c.c, c.x, got, e, c.want)
		}
	}
}

func TestReachTooLate(t *testing.T) {
	for _, c := range []struct {
		c api.Clock
		x int
	}{
		{of(0, 0), mostTime + 1}, {of(7, 0), mostTime + 8}, {of(-7, 0), mostTime - 6}, {of(0, 100000), 1099621578939}, {of(0, -100000), 1099401676614}, {of(-mostShift, 0), 1}, {of(-mostShift, -100000), -109951162},
		{of(0, 0), math.MaxInt}, {of(mostShift, mostDrift), math.MaxInt}, {of(-mostShift, -mostDrift), math.MaxInt},
	} {
		if got, e := clock.Reach(c.c, c.x); got != 0 || e != api.ErrLate {
			t.Errorf("%v reaches %d at %d, error %d", c.c, c.x, got, e)
		}
	}
}

func TestReachNextToASearchOverAllTimes(t *testing.T) {
	const end = 20010
	for _, drift := range []int{0, 1, -1, 99999, -99999, mostDrift, -mostDrift} {
		for _, offset := range []int{0, 1, -1, 9999, -12345} {
			c := of(offset, drift)
			time := 0
			for x := offset - 3; x <= shows(t, c, end); x++ {
				for shows(t, c, time) < x {
					time++
				}
				if got, e := clock.Reach(c, x); got != time || e != api.OK {
					t.Fatalf("%v reaches %d at %d, error %d, want %d", c, x, got, e, time)
				}
			}
		}
	}
}

func TestReachOfSomeClocks(t *testing.T) {
	r := rand.New(rand.NewSource(2))
	for range 5000 {
		c, time := someClock(r), some(r, 0, mostTime)
		x := shows(t, c, time) + r.Intn(3) - 1
		got, e := clock.Reach(c, x)
		if e == api.ErrLate && got == 0 && longShow(c, mostTime) < x {
			continue
		}
		if e != api.OK || got < 0 || got > mostTime || longShow(c, got) < x || got > 0 && longShow(c, got-1) >= x {
			t.Fatalf("%v reaches %d at %d, error %d", c, x, got, e)
		}
	}
}

func TestAdjust(t *testing.T) {
	for _, c := range []struct {
		c    api.Clock
		d    int
		want api.Clock
		e    api.Errno
	}{
		{of(5, 7), 0, of(5, 7), api.OK}, {of(5, 7), 40, of(45, 7), api.OK}, {of(5, -7), -40, of(-35, -7), api.OK}, {of(0, 0), 0, of(0, 0), api.OK},
		{of(0, mostDrift), mostShift, of(mostShift, mostDrift), api.OK}, {of(0, 7), mostShift + 1, of(0, 0), api.ErrArg}, {of(0, -mostDrift), -mostShift, of(-mostShift, -mostDrift), api.OK}, {of(0, 7), -mostShift - 1, of(0, 0), api.ErrArg},
		{of(mostShift, 7), 0, of(mostShift, 7), api.OK}, {of(mostShift, 7), 1, of(0, 0), api.ErrArg}, {of(mostShift, 7), -2 * mostShift, of(-mostShift, 7), api.OK}, {of(mostShift, 7), -2*mostShift - 1, of(0, 0), api.ErrArg},
		{of(-mostShift, 7), 0, of(-mostShift, 7), api.OK}, {of(-mostShift, 7), -1, of(0, 0), api.ErrArg}, {of(-mostShift, 7), 2 * mostShift, of(mostShift, 7), api.OK}, {of(-mostShift, 7), 2*mostShift + 1, of(0, 0), api.ErrArg},
		{of(mostShift-5, 7), 5, of(mostShift, 7), api.OK}, {of(mostShift-5, 7), 6, of(0, 0), api.ErrArg}, {of(5-mostShift, 7), -5, of(-mostShift, 7), api.OK}, {of(5-mostShift, 7), -6, of(0, 0), api.ErrArg},
		{of(0, 0), math.MaxInt, of(0, 0), api.ErrArg}, {of(0, 0), math.MinInt, of(0, 0), api.ErrArg}, {of(mostShift, 0), math.MaxInt, of(0, 0), api.ErrArg}, {of(mostShift, 0), math.MinInt, of(0, 0), api.ErrArg}, {of(-mostShift, 0), math.MaxInt, of(0, 0), api.ErrArg}, {of(-mostShift, 0), math.MinInt, of(0, 0), api.ErrArg}, {of(1, 0), math.MaxInt, of(0, 0), api.ErrArg}, {of(-1, 0), math.MinInt, of(0, 0), api.ErrArg},
	} {
		if got, e := clock.Adjust(c.c, c.d); got != c.want || e != c.e {
			t.Errorf("%v is adjusted by %d to %v, error %d, want %v, error %d", c.c, c.d, got, e, c.want, c.e)
		}
	}
}

func TestApart(t *testing.T) {
	for _, c := range []struct {
		a, b    api.Clock
		t, want int
	}{
		{of(5, 0), of(45, 0), 0, 40}, {of(5, 0), of(45, 0), mostTime, 40}, {of(5, 7), of(5, 7), 12345, 0}, {of(0, 0), of(0, 0), 0, 0},
		{of(0, 0), of(0, 100000), 0, 0}, {of(0, 0), of(0, 100000), 9999, 0}, {of(0, 0), of(0, 100000), 10000, 1}, {of(0, 0), of(0, -100000), 0, 0}, {of(0, 0), of(0, -100000), 1, -1}, {of(0, 0), of(0, -100000), 10001, -2},
		{of(0, 100000), of(0, -100000), 10000, -2}, {of(0, 100000), of(2, -100000), 10000, 0}, {of(-mostShift, 0), of(mostShift, 0), 0, 2 * mostShift}, {of(-mostShift, -100000), of(mostShift, 100000), mostTime, 2*mostShift + 109951162 + 109951163},
	} {
		if got, e := clock.Apart(c.a, c.b, c.t); got != c.want || e != api.OK {
			t.Errorf("%v and %v are %d apart at %d, error %d, want %d", c.a, c.b, got, c.t, e, c.want)
		}
		if got, e := clock.Apart(c.b, c.a, c.t); got != -c.want || e != api.OK {
			t.Errorf("%v and %v are %d apart at %d, error %d, want %d", c.b, c.a, got, c.t, e, -c.want)
		}
	}
}
