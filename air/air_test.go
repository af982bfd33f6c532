package air_test

import (
	"math"
	"reflect"
	"slices"
	"testing"

	"hopmesh/air"
	"hopmesh/api"
)

// steady returns an external transmitter at the point of the nodes of near, on in an interval (and so on, period by period).
func steady(power, from, to int, channels ...int) api.Source {
	return api.Source{Power: power, Channels: channels, Period: 1000, From: from, To: to}
}

// sources returns a spectrum without fadings.
func sources(l ...api.Source) api.Spectrum { return api.Spectrum{Sources: l} }

// fading returns a spectrum with a fading of all transmissions of a node.
func fading(node, first, until, factor int) api.Spectrum {
	return api.Spectrum{Fades: []api.Fade{{From: node, To: -1, Channel: -1, First: first, Until: until, Factor: factor}}}
}

// question asks for an emission at a node.
type question struct {
	name    string
	x       api.Spectrum
	l       []api.Emission
	i, node int
}

func TestExample(t *testing.T) {
	l := list(sends(0, 0, 1000), sends(2, 0, 1000))
	for i, want := range []int{2500, 10000} {
		if got, e := air.Interference(row(), api.Spectrum{}, l, i, 1); got != want || e != api.OK {
			t.Errorf("the interference with %d is %d, error %d, want %d", i, got, e, want)
		}
	}
	for i, want := range []bool{true, false} {
		if got, e := air.Received(row(), api.Spectrum{}, l, i, 1); got != want || e != api.OK {
			t.Errorf("%d is received: %t, error %d, want %t", i, got, e, want)
		}
	}
	for i, want := range [][]int{nil, {0}} {
		if got, e := air.Disturbers(row(), api.Spectrum{}, l, i, 1); !slices.Equal(got, want) || e != api.OK {
			t.Errorf("the disturbers of %d are %v, error %d, want %v", i, got, e, want)
		}
	}
	if got, found, e := air.Hear(row(), api.Spectrum{}, l, api.Listening{Node: 1, Channel: channel, To: 10}); got != 0 || !found || e != api.OK {
		t.Errorf("node 1 hears %d, %t, error %d", got, found, e)
	}
	for i, want := range [][]int{{1}, nil} {
		if got, e := air.Receivers(row(), api.Spectrum{}, l, i); !slices.Equal(got, want) || e != api.OK {
			t.Errorf("%v receive %d, error %d, want %v", got, i, e, want)
		}
	}
	if got, e := air.Receivers(row(), api.Spectrum{}, l[:1], 0); !slices.Equal(got, []int{1, 2}) || e != api.OK {
		t.Errorf("%v receive the first one alone, error %d", got, e)
	}
}

func TestInterference(t *testing.T) {
	none := api.Spectrum{}
	pair := list(sends(0, 100, 200), sends(1, 150, 250))
	for _, c := range []struct {
		question
		want int
	}{
		{question{"alone", none, pair[:1], 0, 3}, 0},
		{question{"one other", none, pair, 0, 3}, 40},
		{question{"the other one's", none, pair, 1, 3}, 100},
		{question{"at its own node", none, pair, 0, 0}, 40},
		{question{"at its own node, alone", none, pair[:1], 0, 0}, 0},
		{question{"at its own node, with one more of it", none, append(pair, sends(0, 200, 300)), 0, 0}, 40},
		{question{"at the other one's node", none, pair, 0, 1}, 0},
		{question{"two others", none, append(pair, sends(2, 90, 101)), 0, 3}, 47},
		{question{"two others, at the node of one", none, append(pair, sends(2, 90, 101)), 0, 2}, 40},
		{question{"one node twice", none, append(pair, sends(1, 0, 101)), 0, 3}, 80},
		{question{"only touching, behind", none, list(sends(0, 100, 200), sends(1, 200, 250)), 0, 3}, 0},
		{question{"only touching, in front", none, list(sends(0, 100, 200), sends(1, 50, 100)), 0, 3}, 0},
		{question{"by one, behind", none, list(sends(0, 100, 200), sends(1, 199, 250)), 0, 3}, 40},
		{question{"by one, in front", none, list(sends(0, 100, 200), sends(1, 50, 101)), 0, 3}, 40},
		{question{"within", none, list(sends(0, 100, 200), sends(1, 140, 150)), 0, 3}, 40},
		{question{"equal", none, list(sends(0, 100, 200), sends(1, 100, 200)), 0, 3}, 40},
		{question{"on another channel", none, list(sends(0, 100, 200), sendsOn(4, 1, 100, 200)), 0, 3}, 0},
		{question{"on two channels", none, list(sends(0, 100, 200), sendsOn(4, 1, 100, 200), sends(2, 100, 200)), 0, 3}, 7},
		{question{"external", sources(steady(5, 0, 1000, channel)), pair, 0, 3}, 45},
		{question{"external, at its own node", sources(steady(5, 0, 1000, channel)), pair, 0, 0}, 45},
		{question{"external, at the other one's node", sources(steady(5, 0, 1000, channel)), pair, 0, 1}, 5},
		{question{"external, on another channel", sources(steady(5, 0, 1000, channel+1)), pair, 0, 3}, 40},
		{question{"external, at last", sources(steady(5, 199, 300, channel)), pair, 0, 3}, 45},
		{question{"external, behind", sources(steady(5, 200, 300, channel)), pair, 0, 3}, 40},
		{question{"external, at first", sources(steady(5, 0, 101, channel)), pair, 0, 3}, 45},
		{question{"external, in front", sources(steady(5, 0, 100, channel)), pair, 0, 3}, 40},
		{question{"external, while the other one is on the air alone", sources(steady(5, 210, 220, channel)), pair, 0, 3}, 40},
		{question{"external, several", sources(steady(5, 0, 1000, channel), steady(6, 120, 130, 1, channel)), pair[:1], 0, 3}, 11},
		{question{"fading of the other one, when it begins", fading(1, 150, 151, 500), pair, 0, 3}, 20},
		{question{"fading of the other one, before", fading(1, 0, 150, 500), pair, 0, 3}, 40},
		{question{"fading of the other one, behind", fading(1, 151, 999, 500), pair, 0, 3}, 40},
		{question{"fading that ends in between, of the later one", fading(1, 0, 120, 500), pair, 0, 3}, 40},
		{question{"fading that begins in between, of the later one", fading(1, 120, 999, 500), pair, 0, 3}, 20},
		{question{"fading that ends in between, of the earlier one", fading(0, 0, 120, 500), pair, 1, 3}, 50},
		{question{"fading that begins in between, of the earlier one", fading(0, 120, 999, 500), pair, 1, 3}, 100},
		{question{"fading of itself", fading(0, 0, 999, 500), pair, 0, 3}, 40},
		{question{"fading of the other one, at its node", fading(1, 0, 999, 500), pair, 0, 0}, 20},
	} {
		if got, e := air.Interference(near(100, 40, 7, 0), c.x, c.l, c.i, c.node); got != c.want || e != api.OK {
			t.Errorf("%s: %d, error %d, want %d", c.name, got, e, c.want)
		}
	}
}

func TestMostInterference(t *testing.T) {
	s := near(slices.Repeat([]int{mostPower}, 32)...)
	loud := sources(slices.Repeat([]api.Source{steady(mostPower, 0, 1000, channel)}, 16)...)
	l := list(sends(0, 0, 40))
	for i := range 47 {
		l = append(l, sends(1+i%24, i/24*20, i/24*20+20))
	}
	if got, e := air.Interference(s, loud, l, 0, 31); got != 63*mostPower || e != api.OK {
		t.Errorf("the interference is %d, error %d, want %d", got, e, 63*mostPower)
	}
	if got, e := air.Received(s, loud, l, 0, 31); got || e != api.OK {
		t.Errorf("it is received: %t, error %d", got, e)
	}
	if got, e := air.Receivers(s, loud, l[:1], 0); got != nil || e != api.OK {
		t.Errorf("%v receive it alone, error %d", got, e)
	}
	if got, e := air.Disturbers(s, loud, l, 0, 31); got != nil || e != api.OK {
		t.Errorf("its disturbers are %v, error %d, but it is not received alone", got, e)
	}
	if got, found, e := air.Hear(s, loud, l, api.Listening{Node: 31, Channel: channel, To: mostTime}); got != 0 || found || e != api.OK {
		t.Errorf("heard: %d, %t, error %d", got, found, e)
	}
	var want []int
	for i := range 47 {
		want = append(want, i+1)
	}
	if got, e := air.Disturbers(s, api.Spectrum{}, l, 0, 31); !slices.Equal(got, want) || e != api.OK {
		t.Errorf("its disturbers are %v, error %d, want %v", got, e, want)
	}
}

func TestReceived(t *testing.T) {
	none := api.Spectrum{}
	alone := list(sends(0, 100, 200))
	for _, c := range []struct {
		question
		powers []int
		want   bool
	}{
		{question{"alone, just", none, alone, 0, 3}, []int{20, 0, 0, 0}, true},
		{question{"alone, one below", none, alone, 0, 3}, []int{19, 0, 0, 0}, false},
		{question{"alone, without power", none, alone, 0, 3}, []int{0, 0, 0, 0}, false},
		{question{"just", none, append(alone, sends(1, 150, 250)), 0, 3}, []int{100, 40, 0, 0}, true},
		{question{"one below", none, append(alone, sends(1, 150, 250)), 0, 3}, []int{99, 40, 0, 0}, false},
		{question{"one unit more interferes", none, append(alone, sends(1, 150, 250)), 0, 3}, []int{100, 41, 0, 0}, false},
		{question{"two, just", none, append(alone, sends(1, 150, 250), sends(2, 0, 101)), 0, 3}, []int{100, 15, 25, 0}, true},
		{question{"two, one more", none, append(alone, sends(1, 150, 250), sends(2, 0, 101)), 0, 3}, []int{100, 15, 26, 0}, false},
		{question{"only touching", none, append(alone, sends(1, 200, 250), sends(2, 0, 100)), 0, 3}, []int{100, 100, 100, 0}, true},
		{question{"on another channel", none, append(alone, sendsOn(4, 1, 100, 200)), 0, 3}, []int{100, 100, 0, 0}, true},
		{question{"external, just", sources(steady(40, 199, 200, channel)), alone, 0, 3}, []int{100, 0, 0, 0}, true},
		{question{"external, one more", sources(steady(41, 199, 200, channel)), alone, 0, 3}, []int{100, 0, 0, 0}, false},
		{question{"external, behind", sources(steady(41, 200, 300, channel)), alone, 0, 3}, []int{100, 0, 0, 0}, true},
		{question{"external and another one, just", sources(steady(30, 0, 1000, channel)), append(alone, sends(1, 150, 250)), 0, 3}, []int{100, 10, 0, 0}, true},
		{question{"external and another one, one more", sources(steady(30, 0, 1000, channel)), append(alone, sends(1, 150, 250)), 0, 3}, []int{100, 11, 0, 0}, false},
		{question{"external, sixteen of the greatest power", sources(slices.Repeat([]api.Source{steady(mostPower, 0, 1000, channel)}, 16)...), alone, 0, 3}, []int{mostPower, 0, 0, 0}, false},
		{question{"by its own node", none, alone, 0, 0}, []int{1000, 0, 0, 0}, false},
		{question{"by the first one's node, the second one", none, list(sends(0, 100, 200), sends(1, 300, 400)), 1, 0}, []int{0, 1000, 0, 0}, true},
		{question{"by a node that emits", none, append(alone, sends(3, 150, 160)), 0, 3}, []int{1000, 0, 0, 0}, false},
		{question{"by a node that emits, all the time", none, append(alone, sends(3, 0, 1000)), 0, 3}, []int{1000, 0, 0, 0}, false},
		{question{"by a node that emits at last", none, append(alone, sends(3, 199, 260)), 0, 3}, []int{1000, 0, 0, 0}, false},
		{question{"by a node that emits at first", none, append(alone, sends(3, 50, 101)), 0, 3}, []int{1000, 0, 0, 0}, false},
		{question{"by a node that emits behind", none, append(alone, sends(3, 200, 260)), 0, 3}, []int{1000, 0, 0, 0}, true},
		{question{"by a node that emits in front", none, append(alone, sends(3, 50, 100)), 0, 3}, []int{1000, 0, 0, 0}, true},
		{question{"by a node that emits on another channel", none, append(alone, sendsOn(4, 3, 150, 160)), 0, 3}, []int{1000, 0, 0, 0}, false},
		{question{"by a node that emits on another channel, behind", none, append(alone, sendsOn(4, 3, 200, 260)), 0, 3}, []int{1000, 0, 0, 0}, true},
		{question{"by a node that emits, second of two", none, append(alone, sends(3, 50, 90), sends(3, 120, 130)), 0, 3}, []int{1000, 0, 0, 0}, false},
		{question{"faded when it begins", fading(0, 100, 101, 500), append(alone, sends(1, 150, 250)), 0, 3}, []int{100, 40, 0, 0}, false},
		{question{"faded behind its beginning", fading(0, 101, 999, 0), append(alone, sends(1, 150, 250)), 0, 3}, []int{100, 40, 0, 0}, true},
		{question{"faded before its beginning", fading(0, 0, 100, 0), append(alone, sends(1, 150, 250)), 0, 3}, []int{100, 40, 0, 0}, true},
		{question{"a disturber that is faded", fading(1, 120, 999, 500), append(alone, sends(1, 150, 250)), 0, 3}, []int{100, 81, 0, 0}, true},
		{question{"a disturber that is no longer faded", fading(1, 0, 150, 500), append(alone, sends(1, 150, 250)), 0, 3}, []int{100, 81, 0, 0}, false},
	} {
		if got, e := air.Received(near(c.powers...), c.x, c.l, c.i, c.node); got != c.want || e != api.OK {
			t.Errorf("%s: %t, error %d, want %t", c.name, got, e, c.want)
		}
	}
}

func TestReceivedWithNoiseAndThreshold(t *testing.T) {
	for _, c := range []struct {
		power, noise, threshold int
		want                    bool
	}{
		{1, 1, 1000, true}, {1, 1, 1001, false}, {1, 2, 1000, false}, {2, 1, 1001, true}, {100, 1, 100000, true}, {99, 1, 100000, false},
		{mostPower, mostPower, 1000, true}, {mostPower - 1, mostPower, 1000, false}, {mostPower, mostPower, 1001, false}, {mostPower, mostPower, 100000, false},
	} {
		s := near(c.power, 0)
		s.Noise, s.Threshold = c.noise, c.threshold
		if got, e := air.Received(s, api.Spectrum{}, list(sends(0, 0, 1)), 0, 1); got != c.want || e != api.OK {
			t.Errorf("%d units, noise %d, threshold %d: %t, error %d, want %t", c.power, c.noise, c.threshold, got, e, c.want)
		}
	}
}

func TestReceivers(t *testing.T) {
	all := near(slices.Repeat([]int{1000}, 32)...)
	var others []int
	for node := 1; node < 32; node++ {
		others = append(others, node)
	}
	for _, c := range []struct {
		name string
		s    api.Site
		x    api.Spectrum
		l    []api.Emission
		i    int
		want []int
	}{
		{"none: no power", near(0, 100, 100), api.Spectrum{}, list(sends(0, 0, 9)), 0, nil},
		{"none: external", near(100, 100, 100), sources(steady(100, 0, 1000, channel)), list(sends(0, 0, 9)), 0, nil},
		{"none: all emit", near(100, 1, 1), api.Spectrum{}, list(sends(0, 0, 9), sendsOn(4, 1, 0, 9), sendsOn(5, 2, 8, 9)), 0, nil},
		{"one", row(), api.Spectrum{}, list(sends(0, 0, 9), sendsOn(4, 2, 0, 9)), 0, []int{1}},
		{"one of two emissions", row(), api.Spectrum{}, list(sends(0, 0, 9), sends(0, 9, 19), sendsOn(4, 2, 0, 9), sendsOn(4, 1, 18, 19)), 1, []int{2}},
		{"all", all, api.Spectrum{}, list(sends(0, 0, 9)), 0, others},
		{"all but the last one", all, api.Spectrum{}, list(sends(31, 0, 9), sendsOn(4, 0, 3, 4)), 0, others[:30]},
		{"by walls", api.Site{Nodes: []api.Point{{X: 10}, {X: 0}, {X: 20}}, Powers: []int{100, 100, 100}, Walls: []api.Wall{{A: api.Point{X: 15}, B: api.Point{X: 15, Y: 9}}}, Exponent: 4, Noise: 10, Threshold: 2000}, api.Spectrum{}, list(sends(0, 0, 9)), 0, []int{1}},
		{"a fading for one", near(100, 100, 100), api.Spectrum{Fades: []api.Fade{{From: 1, To: 0, Channel: channel, Until: 9, Factor: 100}}}, list(sends(1, 0, 9)), 0, []int{2}},
		{"a fading of another channel", near(100, 100, 100), api.Spectrum{Fades: []api.Fade{{From: 1, To: 0, Channel: 4, Until: 9, Factor: 100}}}, list(sends(1, 0, 9)), 0, []int{0, 2}},
	} {
		if got, e := air.Receivers(c.s, c.x, c.l, c.i); !slices.Equal(got, c.want) || e != api.OK {
			t.Errorf("%s: %v, error %d, want %v", c.name, got, e, c.want)
		}
	}
}

func TestDisturbers(t *testing.T) {
	none := api.Spectrum{}
	for _, c := range []struct {
		question
		powers []int
		want   []int
	}{
		{question{"received alone", none, list(sends(0, 100, 200)), 0, 3}, []int{100, 0, 0, 0}, nil},
		{question{"received in spite of one", none, list(sends(0, 100, 200), sends(1, 100, 200)), 0, 3}, []int{100, 40, 0, 0}, nil},
		{question{"one", none, list(sends(0, 100, 200), sends(1, 100, 200)), 0, 3}, []int{100, 41, 0, 0}, []int{1}},
		{question{"one in front", none, list(sends(1, 100, 200), sends(0, 199, 200)), 1, 3}, []int{100, 41, 0, 0}, []int{0}},
		{question{"several together", none, list(sends(1, 100, 200), sends(0, 100, 200), sends(2, 199, 300)), 1, 3}, []int{100, 20, 21, 0}, []int{0, 2}},
		{question{"several together, just received", none, list(sends(1, 100, 200), sends(0, 100, 200), sends(2, 199, 300)), 1, 3}, []int{100, 20, 20, 0}, nil},
		{question{"several, one would be enough", none, list(sends(1, 100, 200), sends(0, 100, 200), sends(2, 199, 300)), 1, 3}, []int{100, 90, 1, 0}, []int{0, 2}},
		{question{"several, one without power", none, list(sends(1, 100, 200), sends(0, 100, 200), sends(2, 199, 300)), 1, 3}, []int{100, 90, 0, 0}, []int{0, 2}},
		{question{"one that only touches", none, list(sends(0, 100, 200), sends(1, 100, 200), sends(2, 200, 300)), 0, 3}, []int{100, 41, 99, 0}, []int{1}},
		{question{"one on another channel", none, list(sends(0, 100, 200), sendsOn(4, 2, 100, 200), sends(1, 100, 200)), 0, 3}, []int{100, 41, 99, 0}, []int{2}},
		{question{"one node twice", none, list(sends(0, 100, 200), sends(1, 100, 150), sends(1, 150, 200)), 0, 3}, []int{100, 30, 0, 0}, []int{1, 2}},
		{question{"not received even alone", none, list(sends(0, 100, 200), sends(1, 100, 200)), 0, 3}, []int{19, 41, 0, 0}, nil},
		{question{"alone just received", none, list(sends(0, 100, 200), sends(1, 100, 200)), 0, 3}, []int{20, 1, 0, 0}, []int{1}},
		{question{"not received because of external ones", sources(steady(41, 0, 1000, channel)), list(sends(0, 100, 200), sends(1, 100, 200)), 0, 3}, []int{100, 90, 0, 0}, nil},
		{question{"external ones leave just enough", sources(steady(40, 0, 1000, channel)), list(sends(0, 100, 200), sends(1, 100, 200)), 0, 3}, []int{100, 1, 0, 0}, []int{1}},
		{question{"external ones alone", sources(steady(41, 0, 1000, channel)), list(sends(0, 100, 200)), 0, 3}, []int{100, 1, 0, 0}, nil},
		{question{"at its own node", none, list(sends(0, 100, 200), sends(1, 100, 200)), 0, 0}, []int{100, 90, 0, 0}, nil},
		{question{"at a node that emits", none, list(sends(0, 100, 200), sends(1, 100, 200), sends(3, 150, 160)), 0, 3}, []int{100, 90, 0, 0}, nil},
		{question{"at a node that emits on another channel", none, list(sends(0, 100, 200), sends(1, 100, 200), sendsOn(4, 3, 199, 300)), 0, 3}, []int{100, 90, 0, 0}, nil},
		{question{"at a node that emits behind", none, list(sends(0, 100, 200), sends(1, 100, 200), sends(3, 200, 300)), 0, 3}, []int{100, 90, 0, 0}, []int{1}},
		{question{"at the disturber's node", none, list(sends(0, 100, 200), sends(1, 100, 200)), 0, 1}, []int{100, 90, 0, 0}, nil},
		{question{"faded, and so not received even alone", fading(0, 0, 999, 199), list(sends(0, 100, 200), sends(1, 100, 200)), 0, 3}, []int{100, 90, 0, 0}, nil},
		{question{"a disturber that is faded", fading(1, 0, 999, 400), list(sends(0, 100, 200), sends(1, 100, 200)), 0, 3}, []int{100, 100, 0, 0}, nil},
	} {
		if got, e := air.Disturbers(near(c.powers...), c.x, c.l, c.i, c.node); !slices.Equal(got, c.want) || e != api.OK {
			t.Errorf("%s: %v, error %d, want %v", c.name, got, e, c.want)
		}
	}
}

// ask calls all functions that ask for an emission at a node, and returns their errors, and whether all other results are zero.
func ask(s api.Site, x api.Spectrum, l []api.Emission, i, node int) ([3]api.Errno, bool) {
	sum, e := air.Interference(s, x, l, i, node)
	received, f := air.Received(s, x, l, i, node)
	disturbers, g := air.Disturbers(s, x, l, i, node)
	return [3]api.Errno{e, f, g}, sum == 0 && !received && disturbers == nil
}

func TestErrorsOfQuestions(t *testing.T) {
	good := list(sends(0, 100, 200), sends(2, 100, 200))
	for _, c := range []struct {
		name    string
		s       api.Site
		x       api.Spectrum
		l       []api.Emission
		i, node int
		e       api.Errno
	}{
		{"the index -1", row(), api.Spectrum{}, good, -1, 1, api.ErrNotFound}, {"the index of the end", row(), api.Spectrum{}, good, 2, 1, api.ErrNotFound}, {"an index of nothing", row(), api.Spectrum{}, nil, 0, 1, api.ErrNotFound},
		{"the least index", row(), api.Spectrum{}, good, math.MinInt, 1, api.ErrNotFound}, {"the greatest index", row(), api.Spectrum{}, good, math.MaxInt, 1, api.ErrNotFound},
		{"no site", api.Site{}, api.Spectrum{}, good, 1, 1, api.ErrArg}, {"no site, no index, no node", api.Site{}, api.Spectrum{}, good, -1, -1, api.ErrArg},
		{"no spectrum", row(), api.Spectrum{Fades: make([]api.Fade, 65)}, good, 1, 1, api.ErrArg}, {"no spectrum, no index, no node", row(), api.Spectrum{Fades: make([]api.Fade, 65)}, rows(49), -1, -1, api.ErrArg},
		{"49 emissions", row(), api.Spectrum{}, rows(49), 1, 1, api.ErrTooLarge}, {"49 emissions, no index, no node", row(), api.Spectrum{}, rows(49), 49, 3, api.ErrTooLarge},
		{"no range", row(), api.Spectrum{}, list(sends(0, 2, 1)), 0, 1, api.ErrRange}, {"no range, no index, no node", row(), api.Spectrum{}, list(sends(0, 2, 1)), 1, 3, api.ErrRange},
		{"a conflict", row(), api.Spectrum{}, list(sends(0, 0, 2), sends(0, 1, 3)), 0, 1, api.ErrConflict}, {"a conflict, no index, no node", row(), api.Spectrum{}, list(sends(0, 0, 2), sends(0, 1, 3)), 2, 3, api.ErrConflict},
		{"a node that the site does not have", row(), api.Spectrum{}, list(sends(3, 0, 2)), 0, 1, api.ErrNotFound},
	} {
		if got, zero := ask(c.s, c.x, c.l, c.i, c.node); got != [3]api.Errno{c.e, c.e, c.e} || !zero {
			t.Errorf("%s: errors %v, all others zero: %t, want %d", c.name, got, zero, c.e)
		}
		if got, e := air.Receivers(c.s, c.x, c.l, c.i); got != nil || e != c.e {
			t.Errorf("%s: %v receive it, error %d, want %d", c.name, got, e, c.e)
		}
	}
	for _, node := range []int{-1, 3, math.MinInt, math.MaxInt} {
		if got, zero := ask(row(), api.Spectrum{}, good, 1, node); got != [3]api.Errno{api.ErrNotFound, api.ErrNotFound, api.ErrNotFound} || !zero {
			t.Errorf("the node %d: errors %v, all others zero: %t", node, got, zero)
		}
	}
	for i := range good {
		for node := range 3 {
			if got, _ := ask(row(), api.Spectrum{}, good, i, node); got != [3]api.Errno{} {
				t.Errorf("the emission %d at the node %d: errors %v", i, node, got)
			}
		}
	}
}

func TestArgumentsAreKept(t *testing.T) {
	s, x := near(100, 60, 30, 0), sources(steady(3, 0, 1000, 1, channel))
	s.Walls = []api.Wall{{A: api.Point{X: 5}, B: api.Point{X: 5, Y: 9}, Factor: 500}}
	x.Fades = fading(1, 120, 999, 900).Fades
	l := list(sends(2, 150, 250), sends(1, 140, 240), sends(0, 100, 200), sendsOn(4, 3, 500, 600))
	site, spectrum, emissions := copied(s), copiedSpectrum(x), slices.Clone(l)
	air.Check(s, x, l)
	air.Overlap(l[0], l[1])
	for i := range l {
		ask(s, x, l, i, 3)
		air.Receivers(s, x, l, i)
	}
	air.Hear(s, x, l, api.Listening{Node: 3, Channel: channel, To: 1000})
	if !reflect.DeepEqual(s, site) || !reflect.DeepEqual(x, spectrum) || !slices.Equal(l, emissions) {
		t.Errorf("%v, %v and %v afterwards", s, x, l)
	}
}
