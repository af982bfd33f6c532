package guard_test

import (
	"math"
	"math/big"
	"math/rand"
	"testing"

	"hopmesh/api"
	"hopmesh/guard"
)

const (
	mostTime  = api.MaxTime
	mostDrift = api.MaxDrift
	mostSlots = api.MaxRun
	mostDepth = api.MaxNodes
)

// function is a function of numbers, each of which is from 0 to a most; slow computes it with numbers of any length.
type function struct {
	name string
	most []int
	call func(a []int) (int, api.Errno)
	slow func(a []int) int
}

// functions returns the functions that compute something without a clock, but Slots.
func functions() []function {
	return []function{
		{"Growth", []int{mostTime, mostDrift}, func(a []int) (int, api.Errno) { return guard.Growth(a[0], a[1]) }, func(a []int) int { return longGrowth(a[0], a[1]) }},
		{"Length", []int{mostSlots, mostDrift}, func(a []int) (int, api.Errno) { return guard.Length(a[0], a[1]) }, func(a []int) int { return longLength(a[0], a[1]) }},
		{"Step", []int{mostSlots, mostDrift}, func(a []int) (int, api.Errno) { return guard.Step(a[0], a[1]) }, func(a []int) int { return longStep(a[0], a[1]) }},
		{"Spread", []int{mostDepth, mostDepth, mostSlots, mostDrift}, func(a []int) (int, api.Errno) { return guard.Spread(a[0], a[1], a[2], a[3]) }, func(a []int) int { return (a[0] + a[1]) * longStep(a[2], a[3]) }},
	}
}

// slots returns Slots as a function.
func slots() function {
	return function{"Slots", []int{mostDepth, mostDepth, mostDrift}, func(a []int) (int, api.Errno) { return guard.Slots(a[0], a[1], a[2]) }, func(a []int) int { return slowSlots(a[0]+a[1], a[2]) }}
}

// long returns a number of any length.
func long(n int) *big.Int { return big.NewInt(int64(n)) }

// longGrowth computes a growth with numbers of any length.
func longGrowth(time, drift int) int {
	product := new(big.Int).Mul(long(2*drift), long(time))
	return int(product.Div(product, long(1000000000)).Int64()) + 2
}

// longLength computes a length with numbers of any length.
func longLength(slots, drift int) int {
	product := new(big.Int).Mul(long(slots*10000+1), long(1000000000))
	quotient, rest := product.DivMod(product, long(1000000000-drift), new(big.Int))
	if rest.Sign() > 0 {
		return int(quotient.Int64()) + 1
	}
	return int(quotient.Int64())
}

// longStep computes a step with numbers of any length.
func longStep(slots, drift int) int { return 1 + longGrowth(longLength(slots, drift), drift) }

// slowSlots tries all numbers of slots, for depths with a sum: -1 if there is none.
func slowSlots(sum, drift int) int {
	greatest := -1
	for slots := range 4097 {
		if sum*longStep(slots, drift) <= 1100 {
			greatest = slots
		}
	}
	return greatest
}

// some returns a number from least to most, often one near an end.
func some(r *rand.Rand, least, most int) int {
	switch r.Intn(3) {
	case 0:
		return min(most, least+r.Intn(5))
	case 1:
		return max(least, most-r.Intn(5))
	}
	return least + r.Intn(most-least+1)
}

func TestExample(t *testing.T) {
	if got, e := guard.Growth(1000000, 100000); got != 202 || e != api.OK {
		t.Errorf("growth %d, error %d", got, e)
	}
	if got, e := guard.Length(100, 100000); got != 1000102 || e != api.OK {
		t.Errorf("length %d, error %d", got, e)
	}
	if got, e := guard.Step(100, 100000); got != 203 || e != api.OK {
		t.Errorf("step %d, error %d", got, e)
	}
	if got, e := guard.Spread(2, 3, 100, 100000); got != 1015 || e != api.OK {
		t.Errorf("spread %d, error %d", got, e)
	}
	if got, e := guard.Slots(2, 3, 100000); got != 108 || e != api.OK {
		t.Errorf("%d slots, error %d", got, e)
	}
}

func TestGrowth(t *testing.T) {
	for _, c := range [][3]int{
		{0, 0, 2}, {0, 1, 2}, {0, mostDrift, 2}, {1, mostDrift, 2}, {4999, mostDrift, 2}, {5000, mostDrift, 3}, {9999, mostDrift, 3}, {10000, mostDrift, 4}, {1000000, mostDrift, 202}, {1000000, 50000, 102},
		{499999999, 1, 2}, {500000000, 1, 3}, {999999999, 1, 3}, {1000000000, 1, 4}, {mostTime, 0, 2}, {mostTime, 1, 2201}, {mostTime, mostDrift - 1, 219900128}, {mostTime, mostDrift, 219902327},
	} {
		if got, e := guard.Growth(c[0], c[1]); got != c[2] || e != api.OK {
			t.Errorf("growth in %d with %d: %d, error %d, want %d", c[0], c[1], got, e, c[2])
		}
	}
}

func TestLength(t *testing.T) {
	for _, c := range [][3]int{
		{0, 0, 1}, {1, 0, 10001}, {100, 0, 1000001}, {mostSlots, 0, 40960001},
		{0, 1, 2}, {0, mostDrift, 2}, {1, 1, 10002}, {1, mostDrift, 10003}, {100, mostDrift, 1000102}, {mostSlots, 1, 40960002}, {mostSlots, mostDrift, 40964098},
		// the only ones that are whole numbers without being rounded, for a drift that is not 0
		{2539, 24576, 25390625}, {3903, 32000, 39031250}, {3281, 76160, 32812500}, {2656, 94080, 26562500},
		{2539, 24575, 25390625}, {2539, 24577, 25390626}, {3903, 32001, 39031251}, {3281, 76161, 32812501}, {2656, 94081, 26562501},
	} {
		if got, e := guard.Length(c[0], c[1]); got != c[2] || e != api.OK {
			t.Errorf("length of %d with %d: %d, error %d, want %d", c[0], c[1], got, e, c[2])
		}
	}
}

func TestStep(t *testing.T) {
	for _, c := range [][3]int{
		{0, 0, 3}, {1, 0, 3}, {mostSlots, 0, 3}, {0, 1, 3}, {0, mostDrift, 3}, {1, mostDrift, 5}, {2, mostDrift, 7}, {100, mostDrift, 203}, {mostSlots, 1, 3}, {mostSlots, 12, 3}, {mostSlots, 13, 4}, {mostSlots, mostDrift, 8195},
	} {
		if got, e := guard.Step(c[0], c[1]); got != c[2] || e != api.OK {
			t.Errorf("step of %d with %d: %d, error %d, want %d", c[0], c[1], got, e, c[2])
		}
	}
}

func TestSpread(t *testing.T) {
	for _, c := range [][5]int{
		{0, 0, 0, 0, 0}, {0, 0, mostSlots, mostDrift, 0}, {1, 0, 0, 0, 3}, {0, 1, 0, 0, 3}, {1, 1, 0, mostDrift, 6}, {2, 3, 100, mostDrift, 1015}, {3, 2, 100, mostDrift, 1015}, {5, 0, 100, mostDrift, 1015}, {0, 5, 100, mostDrift, 1015},
		{mostDepth, mostDepth, 0, 0, 192}, {mostDepth, mostDepth, 0, mostDrift, 192}, {mostDepth, 0, mostSlots, mostDrift, 262240}, {mostDepth, mostDepth, mostSlots, mostDrift, 524480},
	} {
		if got, e := guard.Spread(c[0], c[1], c[2], c[3]); got != c[4] || e != api.OK {
			t.Errorf("spread of %v: %d, error %d", c, got, e)
		}
	}
}

// each yields all lists with one of some numbers at each place.
func each(numbers [][]int, yield func(a []int)) {
	a := make([]int, len(numbers))
	var fill func(at int)
	fill = func(at int) {
		if at == len(a) {
			yield(a)
			return
		}
		for _, n := range numbers[at] {
			a[at] = n
			fill(at + 1)
		}
	}
	fill(0)
}

func TestEndsOfRanges(t *testing.T) {
	for _, f := range append(functions(), slots()) {
		var numbers [][]int
		for _, most := range f.most {
			numbers = append(numbers, []int{0, most, 1, -1, most + 1, math.MinInt, math.MaxInt})
		}
		each(numbers, func(a []int) {
			in := true
			for i, n := range a {
				in = in && 0 <= n && n <= f.most[i]
			}
			got, e := f.call(a)
			if !in && (got != 0 || e != api.ErrRange) {
				t.Fatalf("%s%v = %d, error %d", f.name, a, got, e)
			}
			if in && (got != f.slow(a) || e != api.OK) {
				t.Fatalf("%s%v = %d, error %d, want %d", f.name, a, got, e, f.slow(a))
			}
		})
	}
}

func TestSomeNumbers(t *testing.T) {
	r := rand.New(rand.NewSource(1))
	for _, f := range functions() {
		a := make([]int, len(f.most))
		for range 20000 {
			for i, most := range f.most {
				a[i] = some(r, 0, most)
			}
			if got, e := f.call(a); got != f.slow(a) || e != api.OK {
				t.Fatalf("%s%v = %d, error %d, want %d", f.name, a, got, e, f.slow(a))
			}
		}
	}
}

func TestSlots(t *testing.T) {
	for _, c := range [][4]int{
		{0, 0, 0, mostSlots}, {0, 0, 1, mostSlots}, {0, 0, mostDrift, mostSlots}, {1, 0, 0, mostSlots}, {mostDepth, mostDepth, 0, mostSlots}, {mostDepth, mostDepth, 1, mostSlots},
		{0, 1, mostDrift, 548}, {1, 0, mostDrift, 548}, {1, 1, mostDrift, 273}, {2, 3, mostDrift, 108}, {3, 2, mostDrift, 108}, {0, mostDepth, mostDrift, 15}, {mostDepth, 0, mostDrift, 15}, {mostDepth, mostDepth, mostDrift, 7},
		{mostDepth, mostDepth, 1000, 749}, {mostDepth, mostDepth, 10000, 74}, {1, 1, 10000, 2739}, {0, 1, 13426, 4089}, {mostDepth, mostDepth, 196, 3826},
	} {
		if got, e := guard.Slots(c[0], c[1], c[2]); got != c[3] || e != api.OK {
			t.Errorf("slots for %d, %d and %d: %d, error %d, want %d", c[0], c[1], c[2], got, e, c[3])
		}
	}
}

func TestSlotsNextToASearchOverAllNumbers(t *testing.T) {
	for _, drift := range []int{0, 1, 195, 13426, mostDrift - 1, mostDrift} {
		for sum := range 2*mostDepth + 1 {
			want := slowSlots(sum, drift)
			for a := max(0, sum-mostDepth); a <= min(sum, mostDepth); a++ {
				if got, e := guard.Slots(a, sum-a, drift); got != want || e != api.OK {
					t.Fatalf("slots for %d, %d and %d: %d, error %d, want %d", a, sum-a, drift, got, e, want)
				}
			}
		}
	}
}

func TestOneMoreSlotIsTooMany(t *testing.T) {
	r := rand.New(rand.NewSource(2))
	for range 5000 {
		a, b, drift := some(r, 0, mostDepth), some(r, 0, mostDepth), some(r, 0, mostDrift)
		greatest, e := guard.Slots(a, b, drift)
		if e != api.OK {
			t.Fatalf("%d, %d, %d: error %d", a, b, drift, e)
		}
		if spread, e := guard.Spread(a, b, greatest, drift); spread > 1100 || e != api.OK {
			t.Fatalf("%d, %d, %d: the spread of %d slots is %d, error %d", a, b, drift, greatest, spread, e)
		}
		if greatest == mostSlots {
			continue
		}
		if spread, e := guard.Spread(a, b, greatest+1, drift); spread <= 1100 || e != api.OK {
			t.Fatalf("%d, %d, %d: the spread of %d slots is %d, error %d", a, b, drift, greatest+1, spread, e)
		}
	}
}
