package air_test

import (
	"math"
	"slices"
	"testing"

	"hopmesh/air"
	"hopmesh/api"
)

const (
	mostPower = api.MaxPower
	mostTime  = api.MaxTime
	channel   = 3
)

// row returns the site of the chapter's example: three nodes in a row, with 90000 units each.
func row() api.Site {
	return api.Site{
		Nodes: []api.Point{{X: 0}, {X: 30}, {X: 90}}, Powers: []int{90000, 90000, 90000},
		Exponent: 2, Noise: 10, Threshold: 2000,
	}
}

// near returns a site of nodes at one point, so that the signal of each one at all others is its power.
func near(powers ...int) api.Site {
	return api.Site{Nodes: make([]api.Point, len(powers)), Powers: powers, Exponent: 2, Noise: 10, Threshold: 2000}
}

// sends returns an emission of a node on the channel of these tests.
func sends(node, from, to int) api.Emission { return sendsOn(channel, node, from, to) }

// sendsOn returns an emission of a node on some channel.
func sendsOn(channel, node, from, to int) api.Emission {
	return api.Emission{Node: node, Channel: channel, From: from, To: to}
}

// list returns a list of emissions.
func list(l ...api.Emission) []api.Emission { return l }

// one returns a list of an emission with a change.
func one(change func(e *api.Emission)) []api.Emission {
	e := sends(1, 100, 200)
	change(&e)
	return list(e)
}

// rows returns emissions of the node 0, one behind the other.
func rows(n int) []api.Emission {
	var l []api.Emission
	for i := range n {
		l = append(l, sends(0, i, i+1))
	}
	return l
}

// copied returns a copy of a site that shares no memory with it.
func copied(s api.Site) api.Site {
	s.Nodes, s.Powers, s.Walls = slices.Clone(s.Nodes), slices.Clone(s.Powers), slices.Clone(s.Walls)
	return s
}

// copiedSpectrum returns a copy of a spectrum that shares no memory with it.
func copiedSpectrum(x api.Spectrum) api.Spectrum {
	x.Sources, x.Fades = slices.Clone(x.Sources), slices.Clone(x.Fades)
	for i := range x.Sources {
		x.Sources[i].Channels = slices.Clone(x.Sources[i].Channels)
	}
	return x
}

func TestCheckValid(t *testing.T) {
	for name, l := range map[string][]api.Emission{
		"nil":                            nil,
		"none":                           {},
		"one":                            one(func(e *api.Emission) {}),
		"the first node":                 one(func(e *api.Emission) { e.Node = 0 }),
		"the last node":                  one(func(e *api.Emission) { e.Node = 2 }),
		"the first channel":              one(func(e *api.Emission) { e.Channel = 0 }),
		"the last channel":               one(func(e *api.Emission) { e.Channel = 15 }),
		"from the beginning":             one(func(e *api.Emission) { e.From = 0 }),
		"to the end":                     one(func(e *api.Emission) { e.To = mostTime }),
		"all the time":                   one(func(e *api.Emission) { e.From, e.To = 0, mostTime }),
		"the shortest":                   one(func(e *api.Emission) { e.From = 199 }),
		"the shortest, at the beginning": one(func(e *api.Emission) { e.From, e.To = 0, 1 }),
		"the shortest, at the end":       one(func(e *api.Emission) { e.From, e.To = mostTime-1, mostTime }),
		"48":                             rows(48),
		"one node, touching":             list(sends(1, 100, 200), sends(1, 200, 300)),
		"one node, touching, in front":   list(sends(1, 200, 300), sends(1, 100, 200)),
		"one node, touching, channels":   list(sendsOn(3, 1, 100, 200), sendsOn(4, 1, 200, 300)),
		"one node, apart":                list(sends(1, 100, 200), sends(1, 500, 600), sends(1, 300, 400)),
		"two nodes, overlapping":         list(sends(1, 100, 200), sends(2, 150, 250)),
		"two nodes, equal":               list(sends(1, 100, 200), sends(2, 100, 200)),
		"two nodes, equal, channels":     list(sendsOn(3, 1, 100, 200), sendsOn(4, 2, 100, 200)),
	} {
		if e := air.Check(row(), api.Spectrum{}, l); e != api.OK {
			t.Errorf("%s: error %d", name, e)
		}
	}
}

func TestCheckErrors(t *testing.T) {
	for _, c := range []struct {
		name string
		l    []api.Emission
		e    api.Errno
	}{
		{"a node below 0", one(func(e *api.Emission) { e.Node = -1 }), api.ErrNotFound},
		{"a node too great", one(func(e *api.Emission) { e.Node = 3 }), api.ErrNotFound},
		{"the least node", one(func(e *api.Emission) { e.Node = math.MinInt }), api.ErrNotFound},
		{"the greatest node", one(func(e *api.Emission) { e.Node = math.MaxInt }), api.ErrNotFound},
		{"a channel below 0", one(func(e *api.Emission) { e.Channel = -1 }), api.ErrRange},
		{"a channel too great", one(func(e *api.Emission) { e.Channel = 16 }), api.ErrRange},
		{"the greatest channel", one(func(e *api.Emission) { e.Channel = math.MaxInt }), api.ErrRange},
		{"from below 0", one(func(e *api.Emission) { e.From = -1 }), api.ErrRange},
		{"empty", one(func(e *api.Emission) { e.From = 200 }), api.ErrRange},
		{"empty, at the beginning", one(func(e *api.Emission) { e.From, e.To = 0, 0 }), api.ErrRange},
		{"empty, at the end", one(func(e *api.Emission) { e.From, e.To = mostTime, mostTime }), api.ErrRange},
		{"the wrong way round", one(func(e *api.Emission) { e.From = 201 }), api.ErrRange},
		{"to too great", one(func(e *api.Emission) { e.To = mostTime + 1 }), api.ErrRange},
		{"both too great", one(func(e *api.Emission) { e.From, e.To = mostTime, mostTime+1 }), api.ErrRange},
		{"the least times", one(func(e *api.Emission) { e.From, e.To = math.MinInt, math.MinInt }), api.ErrRange},
		{"the extreme times", one(func(e *api.Emission) { e.From, e.To = math.MinInt, math.MaxInt }), api.ErrRange},
		{"49", rows(49), api.ErrTooLarge},
		{"49, all with errors", make([]api.Emission, 49), api.ErrTooLarge},
		{"overlapping by one", list(sends(1, 100, 200), sends(1, 199, 300)), api.ErrConflict},
		{"overlapping by one, in front", list(sends(1, 100, 200), sends(1, 50, 101)), api.ErrConflict},
		{"overlapping, channels", list(sendsOn(3, 1, 100, 200), sendsOn(4, 1, 199, 300)), api.ErrConflict},
		{"within", list(sends(1, 100, 200), sends(1, 130, 140)), api.ErrConflict},
		{"around", list(sends(1, 130, 140), sends(1, 100, 200)), api.ErrConflict},
		{"equal", list(sends(1, 100, 200), sends(1, 100, 200)), api.ErrConflict},
		{"equal, channels", list(sendsOn(3, 1, 100, 200), sendsOn(4, 1, 100, 200)), api.ErrConflict},
		{"the last of several", list(sends(1, 100, 200), sends(2, 100, 200), sends(1, 300, 400), sends(0, 100, 200), sends(1, 399, 400)), api.ErrConflict},
		{"the first and the last", list(sends(1, 100, 200), sends(1, 300, 400), sends(1, 500, 600), sends(1, 150, 160)), api.ErrConflict},
		// several in one emission
		{"no node, no channel", list(sendsOn(16, 3, 100, 200)), api.ErrNotFound},
		{"no node, no times", list(sends(-1, 200, 100)), api.ErrNotFound},
		{"no channel, in conflict", list(sends(1, 100, 200), sendsOn(-1, 1, 100, 200)), api.ErrRange},
		{"no times, in conflict", list(sends(1, 100, 200), sends(1, 150, mostTime+1)), api.ErrRange},
		// several in several: the first emission with an error decides
		{"no times, then no node", list(sends(1, 200, 100), sends(3, 100, 200)), api.ErrRange},
		{"no node, then no times", list(sends(3, 100, 200), sends(1, 200, 100)), api.ErrNotFound},
		{"in conflict, then no times", list(sends(1, 100, 200), sends(1, 100, 200), sends(1, 200, 100)), api.ErrConflict},
		{"in conflict, then no node", list(sends(1, 100, 200), sends(1, 100, 200), sends(3, 100, 200)), api.ErrConflict},
		{"no node, then in conflict", list(sends(1, 100, 200), sends(3, 100, 200), sends(1, 100, 200)), api.ErrNotFound},
		{"no channel, then in conflict", list(sends(1, 100, 200), sendsOn(16, 1, 300, 400), sends(1, 100, 200)), api.ErrRange},
	} {
		if e := air.Check(row(), api.Spectrum{}, c.l); e != c.e {
			t.Errorf("%s: error %d, want %d", c.name, e, c.e)
		}
	}
}

// badSites returns sites that are not valid.
func badSites() map[string]api.Site {
	silent, single, shared := row(), near(100), row()
	silent.Noise = 0
	shared.Walls = []api.Wall{{Factor: 1001}}
	return map[string]api.Site{"the zero site": {}, "no noise": silent, "one node": single, "a bad wall": shared}
}

// badSpectra returns spectra that are not valid.
func badSpectra() map[string]api.Spectrum {
	return map[string]api.Spectrum{
		"a transmitter without a period": {Sources: []api.Source{{}}},
		"17 transmitters":                {Sources: slices.Repeat([]api.Source{{Period: 1}}, 17)},
		"a bad factor":                   {Fades: []api.Fade{{Factor: 1001}}},
		"65 fadings":                     {Fades: make([]api.Fade, 65)},
	}
}

func TestCheckSiteAndSpectrum(t *testing.T) {
	for name, s := range badSites() {
		for _, l := range [][]api.Emission{nil, rows(1), rows(49), list(sends(9, 2, 1))} {
			if e := air.Check(s, api.Spectrum{}, l); e != api.ErrArg {
				t.Errorf("%s, %d emissions: error %d", name, len(l), e)
			}
		}
	}
	for name, x := range badSpectra() {
		for _, l := range [][]api.Emission{nil, rows(1), rows(49), list(sends(9, 2, 1))} {
			if e := air.Check(row(), x, l); e != api.ErrArg {
				t.Errorf("%s, %d emissions: error %d", name, len(l), e)
			}
		}
	}
	if e := air.Check(api.Site{}, api.Spectrum{Fades: make([]api.Fade, 65)}, rows(49)); e != api.ErrArg {
		t.Errorf("neither is valid: error %d", e)
	}
	large := near(make([]int, 32)...)
	for node, want := range map[int]api.Errno{31: api.OK, 32: api.ErrNotFound} {
		if e := air.Check(large, api.Spectrum{}, list(sends(node, 0, 1))); e != want {
			t.Errorf("the node %d of 32: error %d, want %d", node, e, want)
		}
	}
}

func TestOverlap(t *testing.T) {
	for _, c := range []struct {
		name                 string
		from, to, other, end int
		want                 bool
	}{
		{"apart", 10, 20, 30, 40, false}, {"touching", 10, 20, 20, 30, false}, {"by one", 10, 20, 19, 30, true}, {"by several", 10, 20, 15, 30, true},
		{"within", 10, 20, 12, 18, true}, {"within, at the beginning", 10, 20, 10, 11, true}, {"within, at the end", 10, 20, 19, 20, true}, {"in front", 10, 20, 9, 10, false}, {"behind", 10, 20, 20, 21, false},
		{"equal", 10, 20, 10, 20, true}, {"equal, the shortest", 10, 11, 10, 11, true},
		{"empty, within", 10, 20, 15, 15, false}, {"empty, at the beginning", 10, 20, 10, 10, false}, {"empty, at the end", 10, 20, 20, 20, false}, {"empty, equal", 15, 15, 15, 15, false}, {"empty, apart", 15, 15, 16, 16, false},
		{"the wrong way round, within", 10, 20, 18, 12, false}, {"the wrong way round, around", 10, 20, 30, 0, false}, {"the wrong way round, equal", 20, 10, 20, 10, false}, {"the wrong way round, other", 10, 20, 20, 10, false},
		{"below 0", -20, -10, -15, -5, true}, {"below 0, touching", -20, -10, -10, -5, false}, {"across 0", -1, 1, 0, 5, true},
		{"the extremes", math.MinInt, math.MaxInt, math.MinInt, math.MaxInt, true}, {"the extremes and one", math.MinInt, math.MaxInt, 0, 1, true},
		{"the least number", math.MinInt, math.MinInt + 1, math.MinInt, math.MaxInt, true}, {"the least number, touching", math.MinInt, math.MinInt + 1, math.MinInt + 1, math.MaxInt, false}, {"the least number, empty", math.MinInt, math.MinInt, math.MinInt, math.MaxInt, false},
		{"the greatest number", math.MaxInt - 1, math.MaxInt, math.MinInt, math.MaxInt, true}, {"the greatest number, touching", math.MaxInt - 1, math.MaxInt, math.MinInt, math.MaxInt - 1, false}, {"the greatest number, empty", math.MaxInt, math.MaxInt, math.MinInt, math.MaxInt, false},
		{"the extremes, the wrong way round", math.MaxInt, math.MinInt, math.MinInt, math.MaxInt, false}, {"the extremes, both the wrong way round", math.MaxInt, math.MinInt, math.MaxInt, math.MinInt, false},
	} {
		a, b := sendsOn(1, 0, c.from, c.to), sendsOn(-7, 99, c.other, c.end)
		if air.Overlap(a, b) != c.want || air.Overlap(b, a) != c.want {
			t.Errorf("%s: %t and %t, want %t", c.name, air.Overlap(a, b), air.Overlap(b, a), c.want)
		}
		b.Node, b.Channel = a.Node, a.Channel
		if air.Overlap(a, b) != c.want {
			t.Errorf("%s, of one node on one channel: %t, want %t", c.name, !c.want, c.want)
		}
	}
}

func TestOverlapOfAllSmallIntervals(t *testing.T) {
	const n = 5
	for k := range n * n * n * n {
		a, b := sends(0, k%n, k/n%n), sends(1, k/n/n%n, k/n/n/n)
		want := false
		for time := range n {
			if a.From <= time && time < a.To && b.From <= time && time < b.To {
				want = true
			}
		}
		if got := air.Overlap(a, b); got != want {
			t.Errorf("%v and %v: %t, want %t", a, b, got, want)
		}
	}
}
