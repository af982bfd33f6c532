package power_test

import (
	"math"
	"math/big"
	"math/rand"
	"strconv"
	"strings"
	"testing"

	"hopmesh/api"
	"hopmesh/power"
)

const (
	most        = api.MaxPower
	mostSum     = 64 * api.MaxPower
	maxDecibels = 108
)

// filled returns n powers, all of which are p.
func filled(n, p int) []int {
	l := make([]int, n)
	for i := range l {
		l[i] = p
	}
	return l
}

// level returns the power of decibels, which have to be in range.
func level(t *testing.T, decibels int) int {
	t.Helper()
	p, e := power.Level(decibels)
	if e != api.OK {
		t.Fatalf("Level(%d): error %d", decibels, e)
	}
	return p
}

func TestLevel(t *testing.T) {
	for _, c := range []struct {
		decibels, want int
		e              api.Errno
	}{
		{-1, 0, api.ErrRange}, {math.MinInt, 0, api.ErrRange}, {109, 0, api.ErrRange}, {110, 0, api.ErrRange}, {math.MaxInt, 0, api.ErrRange},
		{0, 1, api.OK}, {1, 1, api.OK}, {2, 1, api.OK}, {3, 1, api.OK}, {4, 2, api.OK}, {5, 3, api.OK}, {6, 3, api.OK}, {7, 5, api.OK}, {8, 6, api.OK}, {9, 7, api.OK},
		{10, 10, api.OK}, {11, 12, api.OK}, {13, 19, api.OK}, {14, 25, api.OK}, {19, 79, api.OK},
		{20, 100, api.OK}, {21, 125, api.OK}, {22, 158, api.OK}, {23, 199, api.OK}, {24, 251, api.OK}, {25, 316, api.OK}, {26, 398, api.OK}, {27, 501, api.OK}, {28, 631, api.OK}, {29, 794, api.OK},
		{30, 1000, api.OK}, {31, 1259, api.OK}, {32, 1585, api.OK}, {33, 1995, api.OK}, {34, 2512, api.OK}, {35, 3162, api.OK}, {36, 3981, api.OK}, {37, 5012, api.OK}, {38, 6310, api.OK}, {39, 7943, api.OK},
		{45, 31620, api.OK}, {100, 10000000000, api.OK}, {107, 50120000000, api.OK}, {108, 63100000000, api.OK},
	} {
		if got, e := power.Level(c.decibels); got != c.want || e != c.e {
			t.Errorf("Level(%d) = %d, error %d, want %d, error %d", c.decibels, got, e, c.want, c.e)
		}
	}
}

func TestMoreDecibelsAreMorePower(t *testing.T) {
	for n := range maxDecibels {
		low, high := level(t, n), level(t, n+1)
		if low > high || n >= 6 && low == high || high > most {
			t.Errorf("%d decibels are %d units, %d are %d", n, low, n+1, high)
		}
	}
}

func TestDecibels(t *testing.T) {
	for _, c := range []struct {
		power, want int
		e           api.Errno
	}{
		{0, 0, api.ErrRange}, {-1, 0, api.ErrRange}, {math.MinInt, 0, api.ErrRange}, {most + 1, 0, api.ErrRange}, {math.MaxInt, 0, api.ErrRange},
		{1, 3, api.OK}, {2, 4, api.OK}, {3, 6, api.OK}, {4, 6, api.OK}, {5, 7, api.OK}, {6, 8, api.OK}, {7, 9, api.OK}, {9, 9, api.OK}, {10, 10, api.OK},
		{18, 12, api.OK}, {19, 13, api.OK}, {24, 13, api.OK}, {25, 14, api.OK}, {1000, 30, api.OK},
		{63100000000, 108, api.OK}, {63099999999, 107, api.OK}, {most, 108, api.OK},
	} {
		if got, e := power.Decibels(c.power); got != c.want || e != c.e {
			t.Errorf("Decibels(%d) = %d, error %d, want %d, error %d", c.power, got, e, c.want, c.e)
		}
	}
}

// slowDecibels tries all numbers of decibels.
func slowDecibels(t *testing.T, p int) int {
	t.Helper()
	best := 0
	for n := range maxDecibels + 1 {
		if level(t, n) <= p {
			best = n
		}
	}
	return best
}

func TestDecibelsAndFormatAtEachLevel(t *testing.T) {
	for n := range maxDecibels + 1 {
		for _, p := range []int{level(t, n) - 1, level(t, n), level(t, n) + 1} {
			if p == 0 {
				continue
			}
			want := slowDecibels(t, p)
			if got, e := power.Decibels(p); got != want || e != api.OK {
				t.Errorf("Decibels(%d) = %d, error %d, want %d", p, got, e, want)
			}
			if got, e := power.Format(p); got != strconv.Itoa(want)+" dB" || e != api.OK {
				t.Errorf("Format(%d) = %q, error %d, want %d", p, got, e, want)
			}
		}
		if n < 6 {
			continue
		}
		if got, e := power.Decibels(level(t, n)); got != n || e != api.OK {
			t.Errorf("%d decibels come back as %d, error %d", n, got, e)
		}
		if got, e := power.Decibels(level(t, n) - 1); got >= n || e != api.OK {
			t.Errorf("less than %d decibels come back as %d, error %d", n, got, e)
		}
	}
}

func TestScale(t *testing.T) {
	for _, c := range []struct {
		power, factor, want int
		e                   api.Errno
	}{
		{1000, -1, 0, api.ErrRange}, {1000, 1001, 0, api.ErrRange}, {-1, 500, 0, api.ErrRange}, {most + 1, 500, 0, api.ErrRange},
		{-1, -1, 0, api.ErrRange}, {math.MaxInt, math.MaxInt, 0, api.ErrRange}, {math.MinInt, math.MinInt, 0, api.ErrRange},
		{1000, 0, 0, api.OK}, {1000, 1, 1, api.OK}, {1000, 999, 999, api.OK}, {1000, 1000, 1000, api.OK},
		{999, 1, 0, api.OK}, {1001, 1, 1, api.OK}, {1, 999, 0, api.OK}, {1, 1000, 1, api.OK}, {0, 1000, 0, api.OK}, {0, 0, 0, api.OK}, {7, 500, 3, api.OK},
		{most, 0, 0, api.OK}, {most, 1, 68719476, api.OK}, {most, 999, 68650757259, api.OK}, {most, 1000, most, api.OK},
	} {
		if got, e := power.Scale(c.power, c.factor); got != c.want || e != c.e {
			t.Errorf("Scale(%d, %d) = %d, error %d, want %d, error %d", c.power, c.factor, got, e, c.want, c.e)
		}
	}
}

func TestSum(t *testing.T) {
	for _, c := range []struct {
		l    []int
		want int
		e    api.Errno
	}{
		{nil, 0, api.OK}, {[]int{}, 0, api.OK}, {[]int{0}, 0, api.OK}, {[]int{5}, 5, api.OK}, {[]int{1, 2, 3}, 6, api.OK}, {[]int{most}, most, api.OK},
		{filled(64, 1), 64, api.OK}, {filled(64, most), mostSum, api.OK},
		{filled(65, 0), 0, api.ErrTooLarge}, {filled(65, -1), 0, api.ErrTooLarge}, {filled(1000, most), 0, api.ErrTooLarge},
		{[]int{-1}, 0, api.ErrRange}, {[]int{most + 1}, 0, api.ErrRange}, {[]int{math.MaxInt, math.MaxInt}, 0, api.ErrRange}, {[]int{math.MinInt}, 0, api.ErrRange},
	} {
		if got, e := power.Sum(c.l); got != c.want || e != c.e {
			t.Errorf("Sum(%v) = %d, error %d, want %d, error %d", c.l, got, e, c.want, c.e)
		}
	}
}

func TestSumWithOneOutOfRangeAtAnyPlace(t *testing.T) {
	for _, n := range []int{1, 2, 64} {
		for i := range n {
			for _, p := range []int{-1, most + 1, math.MinInt, math.MaxInt} {
				l := filled(n, 3)
				l[i] = p
				if got, e := power.Sum(l); got != 0 || e != api.ErrRange {
					t.Errorf("%d at %d of %d: %d, error %d", p, i, n, got, e)
				}
				if got, e := power.Received(1000, 1000, 1, l); got || e != api.ErrRange {
					t.Errorf("%d at %d of %d interferes: %t, error %d", p, i, n, got, e)
				}
			}
		}
	}
}

func TestSumKeepsItsArgument(t *testing.T) {
	l := []int{3, 1, 2}
	power.Sum(l)
	power.Received(1, 1000, 1, l)
	if l[0] != 3 || l[1] != 1 || l[2] != 2 {
		t.Errorf("the powers are %v afterwards", l)
	}
}

func TestReceived(t *testing.T) {
	for _, c := range []struct {
		signal, threshold, noise int
		interference             []int
		want                     bool
		e                        api.Errno
	}{
		{100, 2000, 10, []int{40}, true, api.OK}, {100, 2000, 10, []int{20, 20}, true, api.OK}, {100, 2000, 10, []int{41}, false, api.OK}, {99, 2000, 10, []int{40}, false, api.OK},
		{100, 2001, 10, []int{40}, false, api.OK}, {100, 2000, 11, []int{40}, false, api.OK}, {100, 2000, 10, []int{20, 20, 1}, false, api.OK},
		{1, 1000, 1, nil, true, api.OK}, {1, 1000, 1, []int{}, true, api.OK}, {1, 1000, 1, []int{0}, true, api.OK}, {0, 1000, 1, nil, false, api.OK}, {1, 1001, 1, nil, false, api.OK}, {1, 1000, 2, nil, false, api.OK},
		{100, 100000, 1, nil, true, api.OK}, {99, 100000, 1, nil, false, api.OK}, {100, 100000, 1, []int{1}, false, api.OK},
		{most, 1000, most, nil, true, api.OK}, {most - 1, 1000, most, nil, false, api.OK}, {most, 1000, most, []int{1}, false, api.OK},
		{most, 1000, 1, []int{most - 1}, true, api.OK}, {most, 1000, 1, []int{most}, false, api.OK},
		{most, 100000, most, filled(64, most), false, api.OK}, {0, 100000, most, filled(64, most), false, api.OK},
		// both sides are compared exactly: 2.54 units are more than 2, and less than 3
		{2, 1270, 1, []int{1}, false, api.OK}, {3, 1270, 1, []int{1}, true, api.OK},
	} {
		if got, e := power.Received(c.signal, c.threshold, c.noise, c.interference); got != c.want || e != c.e {
			t.Errorf("Received(%d, %d, %d, %v) = %t, error %d, want %t, error %d", c.signal, c.threshold, c.noise, c.interference, got, e, c.want, c.e)
		}
	}
}

func TestReceivedErrors(t *testing.T) {
	for _, c := range []struct {
		signal, threshold, noise int
		interference             []int
		e                        api.Errno
	}{
		{-1, 1000, 1, nil, api.ErrRange}, {most + 1, 1000, 1, nil, api.ErrRange}, {math.MinInt, 1000, 1, nil, api.ErrRange}, {math.MaxInt, 1000, 1, nil, api.ErrRange},
		{5, 999, 1, nil, api.ErrRange}, {5, 100001, 1, nil, api.ErrRange}, {5, -1, 1, nil, api.ErrRange}, {5, math.MaxInt, 1, nil, api.ErrRange},
		{5, 1000, 0, nil, api.ErrRange}, {5, 1000, -1, nil, api.ErrRange}, {5, 1000, most + 1, nil, api.ErrRange}, {5, 1000, math.MaxInt, nil, api.ErrRange},
		{5, 1000, 1, []int{-1}, api.ErrRange}, {5, 1000, 1, []int{1, most + 1}, api.ErrRange},
		{5, 1000, 1, filled(65, 0), api.ErrTooLarge}, {5, 1000, 1, filled(65, -1), api.ErrTooLarge},
		// several at once
		{-1, 1000, 1, filled(65, 0), api.ErrRange}, {5, 999, 1, filled(65, 0), api.ErrRange}, {5, 1000, 0, filled(65, 0), api.ErrRange}, {-1, 0, 0, []int{-1}, api.ErrRange},
	} {
		if got, e := power.Received(c.signal, c.threshold, c.noise, c.interference); got || e != c.e {
			t.Errorf("Received(%d, %d, %d, %d powers) = %t, error %d, want error %d", c.signal, c.threshold, c.noise, len(c.interference), got, e, c.e)
		}
	}
}

func TestMargin(t *testing.T) {
	for _, c := range []struct {
		signal, threshold, noise, want int
		e                              api.Errno
	}{
		{100, 2000, 10, 40, api.OK}, {101, 2000, 10, 40, api.OK}, {102, 2000, 10, 41, api.OK}, {99, 2000, 10, 39, api.OK}, {20, 2000, 10, 0, api.OK}, {19, 2000, 10, -1, api.OK}, {18, 2000, 10, -1, api.OK},
		{1, 1000, 1, 0, api.OK}, {0, 1000, 1, -1, api.OK}, {0, 1000, most, -1, api.OK}, {0, 100000, most, -1, api.OK},
		{most, 1000, 1, most - 1, api.OK}, {most, 1000, most, 0, api.OK}, {most - 1, 1000, most, -1, api.OK}, {most, 100000, 1, 687194766, api.OK}, {most, 100000, most, -1, api.OK}, {10, 3000, 1, 2, api.OK},
		{-1, 1000, 1, 0, api.ErrRange}, {most + 1, 1000, 1, 0, api.ErrRange}, {math.MaxInt, 1000, 1, 0, api.ErrRange},
		{5, 999, 1, 0, api.ErrRange}, {5, 100001, 1, 0, api.ErrRange}, {5, 0, 1, 0, api.ErrRange}, {5, math.MinInt, 1, 0, api.ErrRange},
		{5, 1000, 0, 0, api.ErrRange}, {5, 1000, -1, 0, api.ErrRange}, {5, 1000, most + 1, 0, api.ErrRange}, {5, 1000, math.MinInt, 0, api.ErrRange},
	} {
		if got, e := power.Margin(c.signal, c.threshold, c.noise); got != c.want || e != c.e {
			t.Errorf("Margin(%d, %d, %d) = %d, error %d, want %d, error %d", c.signal, c.threshold, c.noise, got, e, c.want, c.e)
		}
	}
}

func TestLeast(t *testing.T) {
	for _, c := range []struct {
		threshold, noise, interference, want int
		e                                    api.Errno
	}{
		{2000, 10, 40, 100, api.OK}, {2001, 10, 40, 101, api.OK}, {2020, 10, 40, 101, api.OK}, {2021, 10, 40, 102, api.OK}, {1999, 10, 40, 100, api.OK},
		{1000, 1, 0, 1, api.OK}, {1001, 1, 0, 2, api.OK}, {100000, 1, 0, 100, api.OK},
		{1000, most, 0, most, api.OK}, {1000, 1, most - 1, most, api.OK}, {1000, most, 1, 0, api.ErrTooLarge}, {1000, 1, most, 0, api.ErrTooLarge}, {1001, most, 0, 0, api.ErrTooLarge},
		{100000, most, 0, 0, api.ErrTooLarge}, {1000, 1, mostSum, 0, api.ErrTooLarge}, {100000, most, mostSum, 0, api.ErrTooLarge},
		{100000, 687194767, 0, 68719476700, api.OK}, {100000, 687194768, 0, 0, api.ErrTooLarge},
		{999, 1, 0, 0, api.ErrRange}, {100001, 1, 0, 0, api.ErrRange}, {-1, 1, 0, 0, api.ErrRange}, {math.MaxInt, 1, 0, 0, api.ErrRange},
		{1000, 0, 0, 0, api.ErrRange}, {1000, -1, 0, 0, api.ErrRange}, {1000, most + 1, 0, 0, api.ErrRange}, {1000, math.MaxInt, 0, 0, api.ErrRange},
		{1000, 1, -1, 0, api.ErrRange}, {1000, 1, math.MinInt, 0, api.ErrRange}, {1000, 1, mostSum + 1, 0, api.ErrRange}, {1000, 1, math.MaxInt, 0, api.ErrRange},
		// several at once
		{999, most, mostSum, 0, api.ErrRange}, {100000, 0, mostSum, 0, api.ErrRange}, {100000, most, mostSum + 1, 0, api.ErrRange},
	} {
		if got, e := power.Least(c.threshold, c.noise, c.interference); got != c.want || e != c.e {
			t.Errorf("Least(%d, %d, %d) = %d, error %d, want %d, error %d", c.threshold, c.noise, c.interference, got, e, c.want, c.e)
		}
	}
}

// split returns at most 64 powers with a sum.
func split(sum int) []int {
	var l []int
	for sum > 0 {
		l = append(l, min(sum, most))
		sum -= l[len(l)-1]
	}
	return l
}

// strong computes with numbers of any length whether a signal is received.
func strong(signal, threshold, noise, interference int) bool {
	left := new(big.Int).Mul(big.NewInt(1000), big.NewInt(int64(signal)))
	right := new(big.Int).Add(big.NewInt(int64(noise)), big.NewInt(int64(interference)))
	return left.Cmp(right.Mul(right, big.NewInt(int64(threshold)))) >= 0
}

// some returns a number from low to high, often a small one or one at an end.
func some(r *rand.Rand, low, high int) int {
	switch r.Intn(4) {
	case 0:
		return low + r.Intn(min(high-low+1, 50))
	case 1:
		return high - r.Intn(min(high-low+1, 3))
	}
	return low + r.Intn(high-low+1)>>r.Intn(30)
}

func TestReceivedMarginAndLeastAgree(t *testing.T) {
	r := rand.New(rand.NewSource(1))
	received := func(signal, threshold, noise, interference int) bool {
		ok, e := power.Received(signal, threshold, noise, split(interference))
		if e != api.OK || ok != strong(signal, threshold, noise, interference) {
			t.Fatalf("Received(%d, %d, %d, %d) = %t, error %d", signal, threshold, noise, interference, ok, e)
		}
		return ok
	}
	for range 20000 {
		signal, threshold, noise, interference := some(r, 0, most), some(r, api.MinThresh, api.MaxThresh), some(r, 1, most), some(r, 0, mostSum)
		margin, e := power.Margin(signal, threshold, noise)
		if e != api.OK || margin < -1 {
			t.Fatalf("Margin(%d, %d, %d) = %d, error %d", signal, threshold, noise, margin, e)
		}
		ok := received(signal, threshold, noise, interference)
		if ok != (interference <= margin) || margin >= 0 && !received(signal, threshold, noise, margin) || received(signal, threshold, noise, margin+1) {
			t.Fatalf("%d, %d, %d: the margin %d is not the greatest", signal, threshold, noise, margin)
		}
		least, e := power.Least(threshold, noise, interference)
		if e != api.OK {
			if e != api.ErrTooLarge || strong(most, threshold, noise, interference) {
				t.Fatalf("Least(%d, %d, %d): error %d", threshold, noise, interference, e)
			}
			continue
		}
		if ok != (signal >= least) || !received(least, threshold, noise, interference) || received(least-1, threshold, noise, interference) {
			t.Fatalf("%d, %d, %d: the signal %d is not the least", threshold, noise, interference, least)
		}
	}
}

func TestLessDisturbanceNeverHurts(t *testing.T) {
	r := rand.New(rand.NewSource(2))
	for range 5000 {
		signal, threshold, noise, interference := some(r, 1, most), some(r, api.MinThresh, api.MaxThresh), some(r, 1, most), some(r, 1, mostSum)
		if ok, _ := power.Received(signal, threshold, noise, split(interference)); !ok {
			continue
		}
		if ok, e := power.Received(signal, threshold, noise, split(r.Intn(interference))); !ok || e != api.OK {
			t.Fatalf("%d, %d, %d: not received with less than %d, error %d", signal, threshold, noise, interference, e)
		}
		if ok, e := power.Received(signal+r.Intn(most-signal+1), threshold, noise, split(interference)); !ok || e != api.OK {
			t.Fatalf("%d, %d, %d: a greater signal is not received with %d, error %d", signal, threshold, noise, interference, e)
		}
	}
}

func TestAtMostOneOfTwoSignalsIsReceived(t *testing.T) {
	r := rand.New(rand.NewSource(3))
	one := 0
	for range 5000 {
		a, b, threshold, noise := some(r, 0, most), some(r, 0, most), some(r, api.MinThresh, api.MaxThresh), some(r, 1, 1000)
		first, _ := power.Received(a, threshold, noise, []int{b})
		second, _ := power.Received(b, threshold, noise, []int{a})
		if first && second {
			t.Fatalf("%d and %d are both received", a, b)
		}
		if first || second {
			one++
		}
	}
	if one == 0 {
		t.Error("none was ever received")
	}
}

func TestFormat(t *testing.T) {
	for _, c := range []struct {
		power int
		want  string
		e     api.Errno
	}{
		{0, "", api.ErrRange}, {-1, "", api.ErrRange}, {most + 1, "", api.ErrRange}, {math.MinInt, "", api.ErrRange}, {math.MaxInt, "", api.ErrRange},
		{1, "3 dB", api.OK}, {10, "10 dB", api.OK}, {999, "29 dB", api.OK}, {1000, "30 dB", api.OK}, {most, "108 dB", api.OK},
	} {
		if got, e := power.Format(c.power); got != c.want || e != c.e {
			t.Errorf("Format(%d) = %q, error %d, want %q, error %d", c.power, got, e, c.want, c.e)
		}
	}
}

func TestParseTakesWhatFormatGives(t *testing.T) {
	for n := range maxDecibels + 1 {
		want := level(t, n)
		if got, e := power.Parse(strconv.Itoa(n) + " dB"); got != want || e != api.OK {
			t.Errorf("Parse of %d decibels = %d, error %d, want %d", n, got, e, want)
		}
		text, _ := power.Format(want)
		if got, e := power.Parse(text); got != want || e != api.OK {
			t.Errorf("Parse(%q) = %d, error %d, want %d", text, got, e, want)
		}
	}
}

func TestParseErrors(t *testing.T) {
	for _, s := range []string{
		"", " ", "dB", " dB", "  dB", "3", "3 ", "3dB", "3  dB", " 3 dB", "3 dB ", "3 dB dB", "3 dB\n", "3\tdB", "3 DB", "3 db", "3 d", "3 dBm", "3 B",
		"00 dB", "01 dB", "007 dB", "0108 dB", "0109 dB", "-1 dB", "-0 dB", "+3 dB", "- dB", "+ dB", "1.5 dB", "1e2 dB", "0x10 dB", "1_0 dB", "1 0 dB", "a dB", "/ dB", ": dB", "1/ dB", "1: dB", "3a dB", "a3 dB", "3\x00 dB", "\xff dB", "٣ dB",
		"x109 dB", "109x dB", "109", "109dB", "-109 dB", strings.Repeat("0", 100) + " dB", "0" + strings.Repeat("9", 100) + " dB", strings.Repeat("9", 100), strings.Repeat("9", 100) + "x dB", "-" + strings.Repeat("9", 100) + " dB",
	} {
		if got, e := power.Parse(s); got != 0 || e != api.ErrSyntax {
			t.Errorf("Parse(%q) = %d, error %d", s, got, e)
		}
	}
	for _, s := range []string{
		"109 dB", "110 dB", "200 dB", "1000 dB", "9223372036854775807 dB", "9223372036854775808 dB", "18446744073709551616 dB", "18446744073709551619 dB", "4294967299 dB", "1" + strings.Repeat("0", 1000) + " dB", strings.Repeat("9", 100000) + " dB",
	} {
		if got, e := power.Parse(s); got != 0 || e != api.ErrRange {
			t.Errorf("Parse(%.30q) = %d, error %d", s, got, e)
		}
	}
}
