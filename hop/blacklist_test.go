package hop_test

import (
	"math"
	"math/rand"
	"slices"
	"testing"

	"hopmesh/api"
	"hopmesh/hop"
)

// without leaves out a blacklist, and fails if an argument is modified, or if there are channels together with an error.
func without(t *testing.T, channels, black []int, least int) ([]int, api.Errno) {
	t.Helper()
	channels1, black1 := slices.Clone(channels), slices.Clone(black)
	got, e := hop.Without(channels, black, least)
	if !slices.Equal(channels, channels1) || !slices.Equal(black, black1) {
		t.Errorf("the arguments are modified: %v, %v", channels, black)
	}
	if e != api.OK && len(got) > 0 {
		t.Errorf("%v without %v, at least %d: %v, error %d", channels, black, least, got, e)
	}
	return got, e
}

func TestWithout(t *testing.T) {
	four := []int{11, 12, 15, 3}
	for _, c := range []struct {
		name            string
		channels, black []int
		least           int
		want            []int
	}{
		{"the example", four, []int{12, 15}, 3, []int{11, 12, 3}}, {"two may be left out", four, []int{12, 15}, 2, []int{11, 3}}, {"less than two must stay", four, []int{12, 15}, 1, []int{11, 3}}, {"none may be left out", four, []int{12, 15}, 4, four},
		{"an empty blacklist", four, nil, 1, four}, {"an empty blacklist, all must stay", four, []int{}, 4, four},
		{"in another order", four, []int{15, 12}, 3, []int{11, 15, 3}}, {"in another order, all must stay", four, []int{3, 15, 12}, 4, four},
		{"repetitions", four, []int{12, 12, 15, 12, 15}, 2, []int{11, 3}}, {"repetitions, one too few", four, []int{12, 12, 15, 12, 15}, 3, []int{11, 12, 3}}, {"repetitions of the first one, two too few", four, []int{12, 12, 12, 15, 3}, 3, []int{11, 12, 15}}, {"repetitions, three too few", four, []int{3, 3, 11, 3, 11, 12, 15}, 3, []int{11, 12, 3}},
		{"channels that are not in the list", four, []int{0, 1, 14}, 1, four}, {"also channels that are not in the list", four, []int{0, 12, 1, 15, 14}, 2, []int{11, 3}}, {"also channels that are not in the list, one too few", four, []int{0, 0, 15, 1, 12}, 3, []int{11, 15, 3}},
		{"all", four, []int{3, 15, 12, 11}, 1, []int{3}}, {"all, two must stay", four, []int{3, 15, 12, 11}, 2, []int{15, 3}}, {"all, three must stay", four, []int{3, 15, 12, 11}, 3, []int{12, 15, 3}}, {"all, all must stay", four, []int{3, 15, 12, 11}, 4, four},
		{"one channel", []int{9}, []int{9}, 1, []int{9}}, {"another channel than the only one", []int{9}, []int{8}, 1, []int{9}}, {"16 channels", upTo(16), []int{0, 15}, 14, upTo(15)[1:]}, {"16 channels, all of them", upTo(16), upTo(16), 1, []int{0}}, {"16 channels, all must stay", upTo(16), upTo(16), 16, upTo(16)},
		{"64 elements", four, slices.Repeat([]int{12, 15}, 32), 2, []int{11, 3}}, {"64 elements that are not in the list", four, slices.Repeat([]int{0}, 64), 4, four}, {"64 elements, the last one counts", four, append(slices.Repeat([]int{0}, 63), 12), 1, []int{11, 15, 3}},
	} {
		if got, e := without(t, c.channels, c.black, c.least); !slices.Equal(got, c.want) || e != api.OK {
			t.Errorf("%s: %v, error %d, want %v", c.name, got, e, c.want)
		}
	}
}

func TestErrorsOfWithout(t *testing.T) {
	three := []int{11, 12, 15}
	for _, c := range []struct {
		name            string
		channels, black []int
		least           int
		want            api.Errno
	}{
		{"no channels", nil, nil, 1, api.ErrArg}, {"empty channels", []int{}, []int{1}, 0, api.ErrArg}, {"17 channels", append(upTo(16), 0), nil, 1, api.ErrArg}, {"channel -1", []int{1, -1}, nil, 1, api.ErrArg}, {"channel 16", []int{16, 1}, nil, 1, api.ErrArg}, {"one twice", []int{1, 2, 1}, nil, 1, api.ErrArg}, {"small and great channels", []int{math.MinInt, math.MaxInt}, nil, 1, api.ErrArg}, {"many channels", make([]int, 5000), nil, 1, api.ErrArg},
		{"-1 in the blacklist", three, []int{12, -1}, 1, api.ErrArg}, {"16 in the blacklist", three, []int{16, 12}, 1, api.ErrArg}, {"small numbers in the blacklist", three, []int{math.MinInt}, 1, api.ErrArg}, {"great numbers in the blacklist", three, []int{math.MaxInt}, 1, api.ErrArg}, {"0 and 15 in the blacklist", three, []int{0, 15}, 1, api.OK},
		{"65 elements", three, slices.Repeat([]int{12}, 65), 1, api.ErrArg}, {"many elements", three, make([]int, 5000), 1, api.ErrArg}, {"64 elements", three, slices.Repeat([]int{12}, 64), 1, api.OK},
		{"least 0", three, []int{12}, 0, api.ErrRange}, {"least -1", three, []int{12}, -1, api.ErrRange}, {"least 1", three, []int{12}, 1, api.OK}, {"all must stay", three, []int{12}, 3, api.OK}, {"one more must stay", three, []int{12}, 4, api.ErrRange}, {"a small least", three, nil, math.MinInt, api.ErrRange}, {"a great least", three, nil, math.MaxInt, api.ErrRange}, {"17 of 16 must stay", upTo(16), nil, 17, api.ErrRange}, {"2 of 1 must stay", []int{5}, nil, 2, api.ErrRange},
		{"no channels and least 0", nil, nil, 0, api.ErrArg}, {"16 in the blacklist and least 4", three, []int{16}, 4, api.ErrArg}, {"65 elements and least 0", three, slices.Repeat([]int{12}, 65), 0, api.ErrArg}, {"one twice and least 4", []int{1, 2, 1}, nil, 4, api.ErrArg},
	} {
		if _, e := without(t, c.channels, c.black, c.least); e != c.want {
			t.Errorf("%s: error %d, want %d", c.name, e, c.want)
		}
	}
}

func TestWithoutSharesNoMemory(t *testing.T) {
	for _, black := range [][]int{nil, {12}, {11, 12, 15}} {
		channels, black1 := []int{11, 12, 15}, slices.Clone(black)
		got, _ := hop.Without(channels, black, 1)
		want := slices.Clone(got)
		again, _ := hop.Without(channels, black, 1)
		got[0] = 7
		_ = append(got, 8, 9)
		if !slices.Equal(channels, []int{11, 12, 15}) || !slices.Equal(black, black1) || !slices.Equal(again, want) {
			t.Errorf("a change of a result shows in %v, %v or %v", channels, black, again)
		}
		for i := range channels {
			channels[i] = 5
		}
		for i := range black {
			black[i] = 5
		}
		if !slices.Equal(again, want) {
			t.Errorf("a change of the arguments shows in a result: %v, want %v", again, want)
		}
	}
}

// slowWithout takes the first channel from the blacklist again as long as too few stay.
func slowWithout(channels, black []int, least int) []int {
	for {
		var stay []int
		for _, c := range channels {
			if !slices.Contains(black, c) {
				stay = append(stay, c)
			}
		}
		if len(stay) >= least {
			return stay
		}
		first := black[0]
		black = slices.DeleteFunc(slices.Clone(black), func(c int) bool { return c == first })
	}
}

func TestSomeBlacklists(t *testing.T) {
	r := rand.New(rand.NewSource(2))
	forced := 0
	for range 5000 {
		channels := r.Perm(16)[:1+r.Intn(16)]
		black := make([]int, r.Intn(12))
		for i := range black {
			black[i] = r.Intn(16)
		}
		least := 1 + r.Intn(len(channels))
		want := slowWithout(channels, black, least)
		got, e := without(t, channels, black, least)
		if !slices.Equal(got, want) || e != api.OK {
			t.Fatalf("%v without %v, at least %d: %v, error %d, want %v", channels, black, least, got, e, want)
		}
		if slices.ContainsFunc(got, func(c int) bool { return slices.Contains(black, c) }) {
			forced++
			if len(got) != least {
				t.Fatalf("%v without %v, at least %d: %v", channels, black, least, got)
			}
		}
	}
	if forced < 500 {
		t.Errorf("%d blacklists could not be left out", forced)
	}
}
