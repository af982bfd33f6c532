package quality_test

import (
	"math"
	"math/big"
	"math/rand"
	"testing"

	"hopmesh/api"
	"hopmesh/quality"
)

// most is the greatest number of attempts.
const most = 1073741824

// of returns counts.
func of(acked, attempts int) api.Counts { return api.Counts{Attempts: attempts, Acked: acked} }

// badCounts returns counts that are not valid.
func badCounts() []api.Counts {
	return []api.Counts{
		of(1, 0), of(5, 4), of(most+1, most), of(-1, 0), of(-1, 4), of(0, -1), of(-1, -1), of(-2, -1), of(0, most+1), of(most, most+1), of(most+1, most+1),
		of(math.MinInt, 0), of(math.MaxInt, 4), of(0, math.MaxInt), of(0, math.MinInt), of(math.MinInt, math.MinInt), of(math.MaxInt, math.MaxInt), of(math.MinInt, math.MaxInt), of(math.MaxInt, math.MinInt),
	}
}

func TestCounts(t *testing.T) {
	for _, c := range []struct {
		c          api.Counts
		rate, cost int
	}{
		{of(3, 4), 750, 170}, {of(0, 0), 0, 65535}, {of(0, 1), 0, 65535}, {of(0, most), 0, 65535}, {of(1, 1), 1000, 128}, {of(4, 4), 1000, 128}, {of(most, most), 1000, 128}, {of(most-1, most), 999, 128}, {of(1, most), 0, 65535},
		{of(1, 2), 500, 256}, {of(1, 3), 333, 384}, {of(2, 3), 666, 192}, {of(999, 1000), 999, 128}, {of(1, 1000), 1, 65535}, {of(1, 1001), 0, 65535}, {of(128, 129), 992, 129}, {of(129, 130), 992, 128},
		// just at 65535, and one beyond
		{of(1, 511), 1, 65408}, {of(1, 512), 1, 65535}, {of(128, 65534), 1, 65534}, {of(128, 65535), 1, 65535}, {of(128, 65536), 1, 65535}, {of(256, 131069), 1, 65534}, {of(256, 131070), 1, 65535}, {of(256, 131071), 1, 65535}, {of(256, 131072), 1, 65535}, {of(2097152, most), 1, 65535}, {of(2097151, most), 1, 65535}, {of(2097184, most), 1, 65535}, {of(2097185, most), 1, 65534},
	} {
		if e := quality.Check(c.c); e != api.OK {
			t.Errorf("%v: error %d", c.c, e)
		}
		if got, e := quality.Rate(c.c); got != c.rate || e != api.OK {
			t.Errorf("%v: rate %d, error %d, want %d", c.c, got, e, c.rate)
		}
		if got, e := quality.Cost(c.c); got != c.cost || e != api.OK {
			t.Errorf("%v: cost %d, error %d, want %d", c.c, got, e, c.cost)
		}
	}
}

func TestCountsThatAreNotValid(t *testing.T) {
	for _, c := range badCounts() {
		if e := quality.Check(c); e != api.ErrArg {
			t.Errorf("%v: error %d", c, e)
		}
		if got, e := quality.Rate(c); got != 0 || e != api.ErrArg {
			t.Errorf("%v: rate %d, error %d", c, got, e)
		}
		if got, e := quality.Cost(c); got != 0 || e != api.ErrArg {
			t.Errorf("%v: cost %d, error %d", c, got, e)
		}
		for _, acked := range []bool{false, true} {
			if got, e := quality.Add(c, acked); got != (api.Counts{}) || e != api.ErrArg {
				t.Errorf("%v: %v, error %d", c, got, e)
			}
		}
		for _, other := range append(badCounts(), of(0, 0), of(1, 2), of(2, 2), of(most, most)) {
			if quality.Less(c, other) || quality.Less(other, c) {
				t.Errorf("%v and %v are compared", c, other)
			}
		}
	}
}

func TestAdd(t *testing.T) {
	for _, c := range []struct {
		c     api.Counts
		acked bool
		want  api.Counts
		e     api.Errno
	}{
		{of(0, 0), false, of(0, 1), api.OK}, {of(0, 0), true, of(1, 1), api.OK}, {of(3, 4), false, of(3, 5), api.OK}, {of(3, 4), true, of(4, 5), api.OK}, {of(4, 4), false, of(4, 5), api.OK}, {of(4, 4), true, of(5, 5), api.OK},
		{of(7, most-1), false, of(7, most), api.OK}, {of(7, most-1), true, of(8, most), api.OK}, {of(most-1, most-1), true, of(most, most), api.OK}, {of(7, most), false, of(0, 0), api.ErrFull}, {of(7, most), true, of(0, 0), api.ErrFull}, {of(most, most), true, of(0, 0), api.ErrFull}, {of(0, most), false, of(0, 0), api.ErrFull},
	} {
		if got, e := quality.Add(c.c, c.acked); got != c.want || e != c.e {
			t.Errorf("%v, %t: %v, error %d, want %v, error %d", c.c, c.acked, got, e, c.want, c.e)
		}
	}
}

func TestLess(t *testing.T) {
	for _, c := range []struct {
		a, b api.Counts
		want bool
	}{
		{of(1, 2), of(2, 3), true}, {of(2, 3), of(1, 2), false}, {of(0, 5), of(1, 5), true}, {of(1, 5), of(1, 4), true}, {of(1, 4), of(1, 5), false},
		// equal rates
		{of(1, 2), of(1, 2), false}, {of(1, 2), of(2, 4), false}, {of(2, 4), of(1, 2), false}, {of(3, 3), of(7, 7), false}, {of(0, 3), of(0, 7), false}, {of(most/2, most), of(1, 2), false}, {of(1, 2), of(most/2, most), false}, {of(most, most), of(1, 1), false},
		// equal in thousandths only
		{of(1, 3), of(333, 1000), false}, {of(333, 1000), of(1, 3), true}, {of(1999, 2000), of(2000, 2001), true}, {of(2000, 2001), of(1999, 2000), false}, {of(most-1, most), of(most, most), true}, {of(most-2, most-1), of(most-1, most), true}, {of(most-1, most), of(most-2, most-1), false}, {of(1, most), of(1, most-1), true},
		// without attempts
		{of(0, 0), of(0, 0), false}, {of(0, 0), of(0, 9), false}, {of(0, 9), of(0, 0), false}, {of(0, 0), of(1, 9), true}, {of(1, 9), of(0, 0), false}, {of(0, 0), of(1, most), true}, {of(1, most), of(0, 0), false}, {of(0, 0), of(1, 1), true},
	} {
		if got := quality.Less(c.a, c.b); got != c.want {
			t.Errorf("%v is less than %v: %t", c.a, c.b, got)
		}
	}
}

// some returns some valid counts, often at the ends of their ranges.
func some(r *rand.Rand) api.Counts {
	attempts := r.Intn([]int{1, 4, 40, 3000, most}[r.Intn(5)] + 1)
	switch r.Intn(6) {
	case 0:
		return of(attempts, attempts)
	case 1:
		return of(0, attempts)
	}
	return of(r.Intn(attempts+1), attempts)
}

// fraction returns the rate of counts.
func fraction(c api.Counts) *big.Rat {
	if c.Attempts == 0 {
		return new(big.Rat)
	}
	return big.NewRat(int64(c.Acked), int64(c.Attempts))
}

// floor returns the greatest whole number that is at most a fraction.
func floor(x *big.Rat) int { return int(new(big.Int).Div(x.Num(), x.Denom()).Int64()) }

func TestSomeCounts(t *testing.T) {
	r := rand.New(rand.NewSource(1))
	for range 50000 {
		a, b := some(r), some(r)
		if got := quality.Less(a, b); got != (fraction(a).Cmp(fraction(b)) < 0) {
			t.Fatalf("%v is less than %v: %t", a, b, got)
		}
		rate := floor(new(big.Rat).Mul(fraction(a), big.NewRat(1000, 1)))
		if got, e := quality.Rate(a); got != rate || e != api.OK {
			t.Fatalf("%v: rate %d, error %d, want %d", a, got, e, rate)
		}
		cost := 65535
		if a.Acked > 0 {
			cost = min(cost, floor(new(big.Rat).Quo(big.NewRat(128, 1), fraction(a))))
		}
		if got, e := quality.Cost(a); got != cost || e != api.OK {
			t.Fatalf("%v: cost %d, error %d, want %d", a, got, e, cost)
		}
	}
}
